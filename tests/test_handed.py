"""Point 2: what is handed in stays as it was, and what is told is the asker's own."""

import copy
import unittest

from overlaid.borders import borders, lies_at, periods
from overlaid.covers import (
    all_covers, covered, fewest_layings, how_many_layings, is_bare, is_laying, shortest_cover,
)
from overlaid.errors import CoverError
from tests.plain import all_texts, letters


def covering_places(text, word):
    return covered(text, word)[1]


LIST_OF_TEXT = (borders, periods, all_covers)
LIST_OF_BOTH = (lies_at, covering_places, fewest_layings)


class Kinds(unittest.TestCase):
    def assert_numbers(self, told):
        self.assertIs(type(told), list)
        for number in told:
            self.assertIs(type(number), int)

    def test_kinds_of_what_is_told(self):
        for text in all_texts("ab", 4, 1):
            for deed in LIST_OF_TEXT:
                self.assert_numbers(deed(text))
            self.assertIs(type(shortest_cover(text)), int)
            self.assertIs(type(is_bare(text)), bool)
            for word in all_texts("ab", 3, 1):
                self.assert_numbers(lies_at(text, word))
                self.hold_covered(text, word)
                self.assertIs(type(how_many_layings(text, word)), int)
                self.assertIs(type(is_laying(text, word, [0])), bool)
                self.assertIs(type(is_laying(text, word, [])), bool)

    def hold_covered(self, text, word):
        told = covered(text, word)
        self.assertIs(type(told), tuple)
        self.assertEqual(len(told), 2)
        if told[0] == "covers":
            self.assert_numbers(told[1])
            self.assert_numbers(fewest_layings(text, word))
        else:
            self.assertEqual(told[0], "bare")
            self.assertIs(type(told[1]), int)

    def test_no_signs_is_told_as_a_list(self):
        self.assert_numbers(borders([]))
        self.assert_numbers(periods([]))
        self.assert_numbers(lies_at([], ["a"]))


class HandedIn(unittest.TestCase):
    def hold(self, deed, *handed):
        before = copy.deepcopy(handed)
        try:
            deed(*handed)
        except CoverError:
            pass
        self.assertEqual(handed, before, deed)

    def test_nothing_is_changed(self):
        texts = [[], ["a"], letters("abab"), letters("aaaa"), ["A", "b"], ["a", ""], letters("ba")]
        for text in texts:
            for deed in (*LIST_OF_TEXT, shortest_cover, is_bare):
                self.hold(deed, text)
            for word in texts:
                for deed in (*LIST_OF_BOTH, covered, how_many_layings):
                    self.hold(deed, text, word)
                for places in ([], [0], [0, 2], [2, 0], [0, 0], [-1, 9]):
                    self.hold(is_laying, text, word, places)

    def test_the_same_list_as_text_and_word(self):
        text = letters("aba")
        self.assertEqual(lies_at(text, text), [0])
        self.assertEqual(covered(text, text), ("covers", [0]))
        self.assertEqual(fewest_layings(text, text), [0])
        self.assertEqual(how_many_layings(text, text), 1)
        self.assertIs(is_laying(text, text, [0]), True)
        self.assertEqual(text, letters("aba"))

    def test_nothing_is_kept(self):
        text, word, places = letters("aaaa"), letters("aa"), [0, 2]
        self.assertEqual(covered(text, word), ("covers", [0, 1, 2]))
        self.assertIs(is_laying(text, word, places), True)
        self.assertEqual(all_covers(text), [1, 2, 3, 4])
        told = covered(text, word)
        text[3] = "b"
        self.assertEqual(told, ("covers", [0, 1, 2]))
        self.assertEqual(covered(text, word), ("bare", 3))
        self.assertEqual(all_covers(text), [4])
        self.assertEqual(borders(text), [0])
        self.assertEqual(how_many_layings(text, word), 0)
        text[3] = "a"
        word.append("a")
        self.assertEqual(covered(text, word), ("covers", [0, 1]))
        places[1] = 1
        self.assertIs(is_laying(text, word, places), True)
        places.reverse()
        self.assertIs(is_laying(text, word, places), False)

    def test_what_is_told_may_be_handed_in(self):
        for text in all_texts("ab", 7, 1):
            for many in all_covers(text):
                word = text[:many]
                self.assertIs(is_laying(text, word, covered(text, word)[1]), True)
                self.assertIs(is_laying(text, word, lies_at(text, word)), True)
                self.assertIs(is_laying(text, word, fewest_layings(text, word)), True)


class Told(unittest.TestCase):
    def hold(self, deed, *handed):
        first = deed(*handed)
        due = list(first)
        again = deed(*handed)
        self.assertIsNot(first, again)
        for one in handed:
            self.assertIsNot(first, one)
        first.append(77)
        first[0] = 88
        self.assertEqual(again, due)
        self.assertEqual(deed(*handed), due)
        again.clear()
        self.assertEqual(deed(*handed), due)

    def test_a_told_list_is_the_askers_own(self):
        for text in (["a"], letters("aaaa"), letters("abaababaaba"), letters("abcab")):
            for deed in LIST_OF_TEXT:
                self.hold(deed, text)
            for many in all_covers(text):
                for deed in LIST_OF_BOTH:
                    self.hold(deed, text, text[:many])

    def test_no_list_is_shared_between_questions(self):
        for deed in (borders, periods):
            deed([]).append(5)
            self.assertEqual(deed([]), [])
        lies_at([], ["a"]).append(5)
        self.assertEqual(lies_at([], ["a"]), [])
        lies_at(["b"], ["a"]).append(5)
        self.assertEqual(lies_at(["b"], ["a"]), [])
        text, word = letters("aaaa"), letters("aa")
        places = covered(text, word)[1]
        places.clear()
        self.assertEqual(fewest_layings(text, word), [0, 2])
        self.assertEqual(how_many_layings(text, word), 2)
        self.assertEqual(lies_at(text, word), [0, 1, 2])


if __name__ == "__main__":
    unittest.main()
