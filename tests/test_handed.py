"""Point 2: what is handed in stays as it was, and what is told is the asker's own."""

import copy
import unittest

from overlaid.bare import how_covered, length_for, most_covering
from overlaid.beginnings import (
    cover_tree, covered_beginnings, greatest_covers, how_many_covers, most_covers, shortest_covers,
)
from overlaid.borders import borders, lies_at, periods
from overlaid.counted import count_covered, length_of, number_of, text_at
from overlaid.covers import (
    all_covers, covered, fewest_layings, how_many_layings, is_bare, is_laying, shortest_cover,
)
from overlaid.desk import Desk
from overlaid.errors import CoverError
from overlaid.rests import (
    beginnings_with_rest, ends_with_rest, pieces_with_rests, rest_ahead, rest_behind, rest_both, shown_with_rests,
)
from overlaid.rounds import round_covered, round_covers, shortest_round
from overlaid.wrong import chain_cost, fewest_wrong, nearest_piece, shifts
from tests.plain import all_texts, letters


def covering_places(text, word):
    return covered(text, word)[1]


def bare_runs_told(text, word):
    return how_covered(text, word)[1]


def chain_told(text, word):
    return fewest_wrong(text, word)[1]


def round_places(text, word):
    return round_covered(text, word)[1]


def last_text(text, word):
    return text_at(word, len(text), count_covered(word, len(text)) - 1)


def number_told(text, word):
    return number_of(word, text)


NUMBERS_OF_TEXT = (
    borders, periods, all_covers, shortest_covers, greatest_covers, how_many_covers, beginnings_with_rest,
    ends_with_rest, shifts,
)
LIST_OF_TEXT = (*NUMBERS_OF_TEXT, pieces_with_rests, cover_tree, round_covers)
LIST_OF_BOTH = (
    lies_at, covering_places, fewest_layings, covered_beginnings, shown_with_rests, chain_told, round_places, last_text,
)
OTHERS_OF_TEXT = (shortest_cover, is_bare, most_covers, shortest_round)
OTHERS_OF_BOTH = (covered, how_many_layings, rest_behind, rest_ahead, rest_both, how_covered)
# These are refused of some words and texts that the ones above take.
REFUSED_OF_SOME = (fewest_layings, shown_with_rests, fewest_wrong, round_covered, number_told, last_text)
OF_NUMBER = (most_covering, length_for, nearest_piece, count_covered, length_of)


def tell(deed, *handed):
    """What is told, or the class of the refusal."""
    try:
        return deed(*handed)
    except CoverError as refusal:
        return type(refusal)


class Kinds(unittest.TestCase):
    def assert_numbers(self, told):
        self.assertIs(type(told), list)
        for number in told:
            self.assertIs(type(number), int)

    def test_kinds_of_what_is_told(self):
        for text in all_texts("ab", 4, 1):
            for deed in NUMBERS_OF_TEXT:
                self.assert_numbers(deed(text))
            self.assertIs(type(shortest_cover(text)), int)
            self.assertIs(type(shortest_round(text)), int)
            self.assert_pairs(round_covers(text))
            self.assertIs(type(is_bare(text)), bool)
            self.assert_pair(most_covers(text))
            self.assert_pairs(pieces_with_rests(text))
            self.hold_tree(text)
            for many in range(1, len(text) + 1):
                self.assert_pair(most_covering(text, many))
                self.assertIs(type(length_for(text, many)), int)
                self.hold_nearest(text, many)
                self.hold_counted(text, many)
            for word in all_texts("ab", 3, 1):
                self.assert_numbers(lies_at(text, word))
                self.assert_numbers(covered_beginnings(text, word))
                self.hold_covered(text, word)
                self.hold_rests(text, word)
                self.hold_how_covered(text, word)
                self.hold_wrong_and_round(text, word)
                self.assertIs(type(how_many_layings(text, word)), int)
                self.assertIs(type(is_laying(text, word, [0])), bool)
                self.assertIs(type(is_laying(text, word, [])), bool)

    def assert_pair(self, told):
        self.assertIs(type(told), tuple)
        self.assertEqual([type(number) for number in told], [int, int])

    def assert_pairs(self, told):
        self.assertIs(type(told), list)
        for pair in told:
            self.assert_pair(pair)

    def hold_tree(self, text):
        tree = cover_tree(text)
        self.assertIs(type(tree), list)
        for children in tree:
            self.assert_numbers(children)

    def hold_nearest(self, text, many):
        told = nearest_piece(text, many)
        if told is not None:
            self.assert_pair(told)

    def hold_counted(self, word, many):
        count = count_covered(word, len(word) + many)
        self.assertIs(type(count), int)
        self.assertIn(type(length_of(word, many)), (int, type(None)))
        if count > 0:
            told = text_at(word, len(word) + many, 0)
            self.assert_signs(told)
            self.assertIs(type(number_of(word, told)), int)

    def hold_wrong_and_round(self, text, word):
        told = tell(fewest_wrong, text, word)
        if not isinstance(told, type):
            self.assertIs(type(told), tuple)
            self.assertEqual(len(told), 2)
            self.assertIs(type(told[0]), int)
            self.assert_numbers(told[1])
            self.assertIs(type(chain_cost(text, word, told[1])), int)
        if len(word) <= len(text):
            told = round_covered(text, word)
            self.assertIs(type(told), tuple)
            self.assertEqual(len(told), 2)
            if told[0] == "covers":
                self.assert_numbers(told[1])
            else:
                self.assertEqual(told[0], "bare")
                self.assertIs(type(told[1]), int)

    def assert_signs(self, told):
        self.assertIs(type(told), list)
        self.assertEqual({type(sign) for sign in told}, {str})

    def hold_rests(self, text, word):
        for deed in (rest_behind, rest_ahead, rest_both):
            self.assertIs(type(deed(text, word)), bool)
        if rest_both(text, word):
            self.assert_signs(shown_with_rests(text, word))

    def hold_how_covered(self, text, word):
        told = how_covered(text, word)
        self.assertIs(type(told), tuple)
        self.assertEqual(len(told), 2)
        self.assertIs(type(told[0]), int)
        self.assert_pairs(told[1])

    def hold_covered(self, text, word):
        told = covered(text, word)
        self.assertIs(type(told), tuple)
        self.assertEqual(len(told), 2)
        if told[0] == "covers":
            self.assert_numbers(told[1])
            self.assert_numbers(fewest_layings(text, word))
        else:
            self.assertEqual(told[0], "bare")
            self.assertIs(type(told[1]), int)

    def test_no_signs_is_told_as_a_list(self):
        for deed in (borders, periods, shortest_covers, greatest_covers, how_many_covers):
            self.assert_numbers(deed([]))
        for deed in (lies_at, covered_beginnings):
            self.assert_numbers(deed([], ["a"]))
        self.hold_tree([])
        self.hold_how_covered([], ["a"])


class HandedIn(unittest.TestCase):
    def hold(self, deed, *handed):
        before = copy.deepcopy(handed)
        tell(deed, *handed)
        self.assertEqual(handed, before, deed)

    def test_nothing_is_changed(self):
        texts = [[], ["a"], letters("abab"), letters("aaaa"), ["A", "b"], ["a", ""], letters("ba")]
        for text in texts:
            for deed in (*LIST_OF_TEXT, *OTHERS_OF_TEXT):
                self.hold(deed, text)
            for many in (-1, 0, 1, 2, 9):
                for deed in OF_NUMBER:
                    self.hold(deed, text, many)
                for length in (-1, 0, 1, 4, 9, 201):
                    self.hold(text_at, text, length, many)
            for word in texts:
                for deed in (*LIST_OF_BOTH, *OTHERS_OF_BOTH, *REFUSED_OF_SOME):
                    self.hold(deed, text, word)
                for places in ([], [0], [0, 2], [2, 0], [0, 0], [-1, 9]):
                    self.hold(is_laying, text, word, places)
                    self.hold(chain_cost, text, word, places)

    def test_the_same_list_as_text_and_word(self):
        text = letters("aba")
        self.assertEqual(lies_at(text, text), [0])
        self.assertEqual(covered(text, text), ("covers", [0]))
        self.assertEqual(fewest_layings(text, text), [0])
        self.assertEqual(how_many_layings(text, text), 1)
        self.assertIs(is_laying(text, text, [0]), True)
        self.assertEqual(covered_beginnings(text, text), [3])
        for deed in (rest_behind, rest_ahead, rest_both):
            self.assertIs(deed(text, text), True)
        self.assertEqual(shown_with_rests(text, text), letters("aba"))
        self.assertEqual(how_covered(text, text), (3, []))
        self.assertEqual(chain_cost(text, text, [0]), 0)
        self.assertEqual(fewest_wrong(text, text), (0, [0]))
        self.assertEqual(number_of(text, text), 0)
        self.assertEqual(round_covered(text, text), ("covers", [0]))
        self.assertEqual(text, letters("aba"))

    def test_nothing_is_kept(self):
        text, word, places = letters("aaaa"), letters("aa"), [0, 2]
        self.assertEqual(covered(text, word), ("covers", [0, 1, 2]))
        self.assertIs(is_laying(text, word, places), True)
        self.assertEqual(all_covers(text), [1, 2, 3, 4])
        told = covered(text, word)
        text[3] = "b"
        self.assertEqual(told, ("covers", [0, 1, 2]))
        self.assertEqual(covered(text, word), ("bare", 3))
        self.assertEqual(all_covers(text), [4])
        self.assertEqual(borders(text), [0])
        self.assertEqual(how_many_layings(text, word), 0)
        text[3] = "a"
        word.append("a")
        self.assertEqual(covered(text, word), ("covers", [0, 1]))
        places[1] = 1
        self.assertIs(is_laying(text, word, places), True)
        places.reverse()
        self.assertIs(is_laying(text, word, places), False)

    def test_nothing_is_kept_of_beginnings_rests_and_bare_signs(self):
        text, word = letters("aaaa"), letters("aa")
        tree, pieces, runs = cover_tree(text), pieces_with_rests(text), how_covered(text, word)
        shown, lengths = shown_with_rests(text, word), covered_beginnings(text, word)
        self.assertEqual(shown_with_rests(word, text), letters("aaaa"))
        text[3] = "b"
        self.assertEqual(tree, [[1], [2], [3], [4], []])
        self.assertEqual(pieces, [(1, 0), (2, 0), (3, 0), (4, 0)])
        self.assertEqual(runs, (4, []))
        self.assertEqual(shown, letters("aaaa"))
        self.assertEqual(lengths, [2, 3, 4])
        self.assertEqual(cover_tree(text), [[1, 4], [2], [3], [], []])
        self.assertEqual(most_covers(text), (3, 3))
        self.assertEqual(pieces_with_rests(text), [(4, 0)])
        self.assertEqual(how_covered(text, word), (3, [(3, 4)]))
        self.assertEqual(covered_beginnings(text, word), [2, 3])
        self.assertEqual([deed(text, word) for deed in (rest_behind, rest_ahead, rest_both)], [False] * 3)
        self.assertEqual(most_covering(text, 1), (3, 0))
        self.assertEqual(length_for(text, 4), 4)

    def test_nothing_is_kept_of_chains_counts_and_rounds(self):
        text, word, chain = letters("aaaa"), letters("aa"), [0, 2]
        steps, best, shown = shifts(word), fewest_wrong(text, word), text_at(word, 4, 0)
        places, pieces = round_covered(text, word), round_covers(text)
        self.assertEqual(chain_cost(text, word, chain), 0)
        text[3] = "b"
        self.assertEqual(chain_cost(text, word, chain), 1)
        self.assertEqual(fewest_wrong(text, word), (1, [0, 2]))
        self.assertEqual(nearest_piece(text, 2), (1, 0))
        self.assertEqual(round_covered(text, word), ("bare", 3))
        self.assertEqual(shortest_round(text), 4)
        chain.insert(1, 1)
        self.assertEqual(chain_cost(text, word, chain), 1)
        word[1] = "b"
        self.assertEqual(shifts(word), [2])
        self.assertEqual(count_covered(word, 3), 0)
        self.assertEqual(text_at(word, 4, 0), letters("abab"))
        self.assertEqual(fewest_wrong(text, word), (1, [0, 2]))
        self.assertEqual((steps, best, shown), ([1, 2], (0, [0, 2]), letters("aaaa")))
        self.assertEqual((places, pieces), (("covers", [0, 1, 2, 3]), [(1, 0), (2, 0), (3, 0), (4, 0)]))

    def test_what_is_told_may_be_handed_in(self):
        for text in all_texts("ab", 7, 1):
            for many in all_covers(text):
                word = text[:many]
                self.assertIs(is_laying(text, word, covered(text, word)[1]), True)
                self.assertIs(is_laying(text, word, lies_at(text, word)), True)
                self.assertIs(is_laying(text, word, fewest_layings(text, word)), True)
                shown = shown_with_rests(text, word)
                self.assertEqual(covered(shown, word)[0], "covers")
                self.assertEqual(shown_with_rests(shown, shown), shown)
                self.assertEqual(chain_cost(text, word, fewest_layings(text, word)), 0)
                self.assertEqual(chain_cost(text, word, fewest_wrong(text, word)[1]), 0)
                self.assertIs(is_laying(text, word, fewest_wrong(text, word)[1]), True)
                first = text_at(word, len(text), 0)
                self.assertEqual(number_of(word, first), 0)
                self.assertEqual(covered(first, word)[0], "covers")
                self.assertLessEqual(length_of(word, count_covered(word, len(text))), len(text))
                number = most_covering(text, many)[0]
                self.assertGreaterEqual(most_covering(text, length_for(text, number))[0], number)


class Told(unittest.TestCase):
    def hold(self, deed, *handed):
        first = deed(*handed)
        due = list(first)
        again = deed(*handed)
        self.assertIsNot(first, again)
        for one in handed:
            self.assertIsNot(first, one)
        first.append(77)
        first[0] = 88
        self.assertEqual(again, due)
        self.assertEqual(deed(*handed), due)
        again.clear()
        self.assertEqual(deed(*handed), due)

    def test_a_told_list_is_the_askers_own(self):
        for text in (["a"], letters("aaaa"), letters("abaababaaba"), letters("abcab")):
            for deed in LIST_OF_TEXT:
                self.hold(deed, text)
            for many in all_covers(text):
                for deed in LIST_OF_BOTH:
                    self.hold(deed, text, text[:many])
        self.hold(bare_runs_told, letters("abcab"), ["a"])
        for word, length in (("a", 1), ("aba", 3), ("aba", 11), ("aba", 200)):
            self.hold(text_at, letters(word), length, 0)
        # Where the text stands in the word, the word's own signs are told in a new list.
        self.hold(shown_with_rests, letters("ab"), letters("cabc"))

    def test_the_lists_within_a_told_list_are_the_askers_own(self):
        text = letters("aaba")
        due = [[1, 3, 4], [2], [], [], []]
        first, again = cover_tree(text), cover_tree(text)
        self.assertEqual(first, due)
        self.assertEqual(len({id(children) for children in first}), 5)
        first[0].append(77)
        first[2].append(88)
        self.assertEqual(again, due)
        self.assertEqual(cover_tree(text), due)
        cover_tree([])[0].append(5)
        self.assertEqual(cover_tree([]), [[]])

    def test_being_asked_again_tells_the_same(self):
        for text in all_texts("ab", 4, 1):
            for deed in (*LIST_OF_TEXT, *OTHERS_OF_TEXT):
                self.assertEqual(deed(text), deed(text))
            for many in range(1, len(text) + 1):
                for deed in OF_NUMBER:
                    self.assertEqual(deed(text, many), deed(text, many))
                self.assertEqual(tell(text_at, text, 9, many), tell(text_at, text, 9, many))
            for word in all_texts("ab", 3, 1):
                for deed in (lies_at, covered_beginnings, *OTHERS_OF_BOTH):
                    self.assertEqual(deed(text, word), deed(text, word))
                for deed in REFUSED_OF_SOME:
                    self.assertEqual(tell(deed, text, word), tell(deed, text, word))

    def test_what_is_refused_changes_nothing(self):
        text, word = letters("abaab"), letters("aba")
        before = [tell(deed, text, word) for deed in (*LIST_OF_BOTH, *OTHERS_OF_BOTH, *REFUSED_OF_SOME)]
        for wrong in ([], ["A"], ["a", ""]):
            for deed in (*LIST_OF_BOTH, *OTHERS_OF_BOTH, *REFUSED_OF_SOME):
                tell(deed, wrong, word)
                tell(deed, text, wrong)
            for deed in OF_NUMBER:
                tell(deed, wrong, 0)
        after = [tell(deed, text, word) for deed in (*LIST_OF_BOTH, *OTHERS_OF_BOTH, *REFUSED_OF_SOME)]
        self.assertEqual(after, before)

    def test_what_is_done_to_told_lists_changes_nothing_at_a_desk(self):
        desk = Desk()
        desk.say("text aaaa")
        desk.say("word aa")
        for deed in (lies_at, fewest_layings, chain_told, shown_with_rests):
            deed(letters("aaaa"), letters("aa")).clear()
        shifts(letters("aa")).clear()
        self.assertEqual(desk.say("lies"), "0 1 2")
        self.assertEqual(desk.say("wrong"), "0: 0 2")

    def test_no_list_is_shared_between_questions(self):
        for deed in (borders, periods, shortest_covers, greatest_covers, how_many_covers):
            deed([]).append(5)
            self.assertEqual(deed([]), [])
        for deed in (lies_at, covered_beginnings, bare_runs_told):
            deed([], ["a"]).append(5)
            self.assertEqual(deed([], ["a"]), [])
        for deed in (lies_at, covered_beginnings):
            deed(["b"], ["a"]).append(5)
            self.assertEqual(deed(["b"], ["a"]), [])
        text, word = letters("aaaa"), letters("aa")
        places = covered(text, word)[1]
        places.clear()
        self.assertEqual(fewest_layings(text, word), [0, 2])
        self.assertEqual(how_many_layings(text, word), 2)
        self.assertEqual(lies_at(text, word), [0, 1, 2])


if __name__ == "__main__":
    unittest.main()
