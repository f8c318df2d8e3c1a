"""Point 4: what is promised of the whole, over the functions together."""

import unittest

from overlaid.bare import how_covered
from overlaid.beginnings import (
    cover_tree, covered_beginnings, greatest_covers, how_many_covers, most_covers, shortest_covers,
)
from overlaid.borders import borders, lies_at, periods
from overlaid.counted import count_covered, length_of, number_of, text_at
from overlaid.covers import (
    all_covers, covered, fewest_layings, how_many_layings, is_bare, is_laying, shortest_cover,
)
from overlaid.errors import NoCover, NoText
from overlaid.rests import rest_ahead, rest_behind, rest_both, shown_with_rests
from overlaid.rounds import round_covered, round_covers, shortest_round
from overlaid.wrong import chain_cost, fewest_wrong, nearest_piece, shifts
from tests.plain import (
    all_texts, assert_refused, letters, plain_chains, plain_cost, plain_layings, plain_places, soon,
)


def pairs():
    for signs, longest in (("ab", 6), ("abc", 4)):
        for text in all_texts(signs, longest, 1):
            for word in all_texts(signs, longest + 1, 1):
                yield text, word


def long_texts():
    ab = ["a", "b"]
    for text in ("a" * 200, "ab" * 100, "aba" * 66 + "ba", "a" * 99 + "b" + "a" * 100, "abaab" * 40):
        yield letters(text)
    # Each is the last one and the one ahead of it: a text with many unlike covers.
    before, text = ["b"], ["a"]
    while len(before) + len(text) <= 200:
        before, text = text, text + before
    yield text
    yield [ab[bin(number).count("1") % 2] for number in range(200)]


class Whole(unittest.TestCase):
    def test_just_one_is_told_of_every_word_and_text(self):
        for text, word in pairs():
            kind, found = covered(text, word)
            under = {place + at for place in plain_places(text, word) for at in range(len(word))}
            if kind == "covers":
                self.assertEqual(found, plain_places(text, word))
                self.assertEqual(under, set(range(len(text))))
            else:
                self.assertEqual(kind, "bare")
                self.assertNotIn(found, under)
                self.assertLessEqual(set(range(found)), under)
            self.hold_what_hangs_on_it(text, word, kind)

    def hold_what_hangs_on_it(self, text, word, kind):
        covers = kind == "covers"
        self.assertEqual(is_laying(text, word, lies_at(text, word)), covers)
        self.assertEqual(how_many_layings(text, word) > 0, covers)
        self.assertEqual(how_covered(text, word)[0] == len(text), covers)
        self.assertEqual(len(text) in covered_beginnings(text, word), covers)
        if covers:
            self.assertEqual([deed(text, word) for deed in (rest_behind, rest_ahead, rest_both)], [True] * 3)
            self.assertEqual(shown_with_rests(text, word), text)
            self.assertEqual(round_covered(text, word)[0], "covers")
            self.assertEqual(fewest_wrong(text, word), (0, fewest_layings(text, word)))
            self.assertEqual(text_at(word, len(text), number_of(word, text)), text)
        else:
            assert_refused(self, NoCover, fewest_layings, text, word)
            assert_refused(self, NoCover, number_of, word, text)

    def test_all_covers_are_told_and_no_other(self):
        for text in [*all_texts("ab", 8, 1), *all_texts("abc", 5, 1)]:
            told = all_covers(text)
            for many in range(1, len(text) + 1):
                self.assertEqual(many in told, covered(text, text[:many])[0] == "covers")
            self.assertEqual(told, sorted(set(told)))
            self.assertLessEqual(told[-1], len(text))
            self.assertEqual(shortest_cover(text), told[0])
            self.assertEqual(is_bare(text), told == [len(text)])
            self.assertLessEqual(set(told[:-1]), set(borders(text)))
            self.hold_beginnings(text)
        # A word that covers a text is one of its beginnings.
        for text, word in pairs():
            if covered(text, word)[0] == "covers":
                self.assertEqual(text[:len(word)], word)
                self.assertIn(len(word), all_covers(text))

    def hold_beginnings(self, text):
        lists = [all_covers(text[:length]) for length in range(1, len(text) + 1)]
        self.assertEqual(shortest_covers(text), [min(told) for told in lists])
        self.assertEqual(greatest_covers(text), [max(told[:-1], default=0) for told in lists])
        self.assertEqual(how_many_covers(text), [len(told) for told in lists])
        length, many = most_covers(text)
        self.assertEqual(len(all_covers(text[:length])), many)
        tree = cover_tree(text)
        for length in range(1, len(text) + 1):
            self.assertEqual(self.up_the_tree(tree, length), lists[length - 1])

    def up_the_tree(self, tree, length):
        """The covers of a beginning, as the tree leads from it to none."""
        found = []
        while length > 0:
            found.insert(0, length)
            length = [cover for cover, lengths in enumerate(tree) if length in lengths][0]
        return found

    def test_the_fewest_layings_are_had_and_no_others_are_fewer(self):
        for text, word in pairs():
            if covered(text, word)[0] == "covers":
                told, every = fewest_layings(text, word), plain_layings(text, word)
                self.assertIs(is_laying(text, word, told), True)
                self.assertEqual(len(told), min(len(places) for places in every))
                self.assertEqual(how_many_layings(text, word), len(every))

    def test_the_fewest_wrong_signs_are_had_and_no_others_are_fewer(self):
        for text, word in pairs():
            if len(word) > len(text):
                assert_refused(self, NoText, fewest_wrong, text, word)
                continue
            costs = [plain_cost(text, word, chain) for chain in plain_chains(text, word)]
            if not costs:
                assert_refused(self, NoCover, fewest_wrong, text, word)
                continue
            cost, chain = fewest_wrong(text, word)
            self.assertEqual(cost, min(costs))
            self.assertEqual(chain_cost(text, word, chain), cost)
            self.assertEqual(cost == 0, covered(text, word)[0] == "covers")
            for before, behind in zip(chain, chain[1:]):
                self.assertIn(behind - before, shifts(word))

    def test_the_nearest_piece_is_had_and_no_other_is_nearer(self):
        for text in all_texts("ab", 7, 1):
            for many in range(1, len(text) + 1):
                costs = []
                for place in range(len(text) - many + 1):
                    try:
                        costs.append((fewest_wrong(text, text[place:place + many])[0], place))
                    except NoCover:
                        pass
                self.assertEqual(nearest_piece(text, many), min(costs, default=None))

    def test_covered_texts_and_numbers_lead_to_one_another(self):
        for word in [*all_texts("ab", 4, 1), *all_texts("abc", 3, 3)]:
            for length in range(1, 9):
                texts = [text_at(word, length, number) for number in range(count_covered(word, length))]
                self.assertEqual([number_of(word, text) for text in texts], list(range(len(texts))))
                self.assertEqual(texts, sorted(texts))
                found = [text for text in all_texts(sorted(set(word)), length, length)
                         if covered(text, word)[0] == "covers"]
                self.assertEqual(texts, found)

    def test_rounds_and_texts(self):
        for text in all_texts("ab", 7, 1):
            told = round_covers(text)
            self.assertEqual(shortest_round(text), told[0][0])
            self.assertLessEqual(shortest_round(text), shortest_cover(text))
            for length, place in told:
                word = (text + text)[place:place + length]
                self.assertEqual(round_covered(text, word)[0], "covers")
                # Round about it goes on for ever, so what covers the round covers the text with rests.
                self.assertIs(rest_both(text, word), True)

    def test_two_hundred_signs(self):
        with soon(120):
            for text in long_texts():
                self.hold_long(text)

    def hold_long(self, text):
        covers = all_covers(text)
        self.assertEqual(shortest_covers(text)[-1], covers[0])
        self.assertEqual(how_many_covers(text)[-1], len(covers))
        self.assertEqual(self.up_the_tree(cover_tree(text), len(text)), covers)
        for many in covers[:12]:
            word = text[:many]
            places = fewest_layings(text, word)
            self.assertIs(is_laying(text, word, places), True)
            self.assertIs(is_laying(text, word, covered(text, word)[1]), True)
            self.assertEqual(fewest_wrong(text, word), (0, places))
            self.assertEqual(chain_cost(text, word, places), 0)
            self.assertEqual(text_at(word, len(text), number_of(word, text)), text)
            self.assertLessEqual(length_of(word, number_of(word, text) + 1), len(text))
            self.assertEqual(shifts(word), periods(word))
            self.assertEqual(round_covered(text, word)[0], "covers")
            self.assertEqual(shown_with_rests(text, word), text)


if __name__ == "__main__":
    unittest.main()
