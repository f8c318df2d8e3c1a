"""Points 4, 8, 9 and 10: what covers a text, and with which layings."""

import itertools
import unittest

from overlaid.covers import (
    all_covers, covered, fewest_layings, how_many_layings, is_bare, is_laying, shortest_cover,
)
from overlaid.errors import NoCover, NoSign, NoText, NoWord
from tests.plain import (
    NO_SIGNS, all_texts, assert_refused, letters, plain_all_covers, plain_covered, plain_is_laying, plain_layings, soon,
)


def is_laying_of_none(text, word):
    return is_laying(text, word, [])


def is_laying_of_some(text, word):
    return is_laying(text, word, [0, 2, 1, -1])


WORD_DEEDS = (covered, is_laying_of_none, is_laying_of_some, fewest_layings, how_many_layings)
TEXT_DEEDS = (all_covers, shortest_cover, is_bare)


class Covered(unittest.TestCase):
    def test_covers_tells_all_places(self):
        self.assertEqual(covered(letters("abaababaaba"), letters("aba")), ("covers", [0, 3, 5, 8]))
        self.assertEqual(covered(letters("aaaa"), letters("aa")), ("covers", [0, 1, 2]))
        self.assertEqual(covered(letters("abab"), letters("ab")), ("covers", [0, 2]))

    def test_bare_tells_the_first_bare_sign(self):
        self.assertEqual(covered(letters("baba"), letters("ab")), ("bare", 0))
        self.assertEqual(covered(letters("abcab"), letters("ab")), ("bare", 2))
        self.assertEqual(covered(letters("ababa"), letters("ab")), ("bare", 4))
        self.assertEqual(covered(letters("abcccabc"), letters("ab")), ("bare", 2))
        self.assertEqual(covered(letters("abc"), letters("d")), ("bare", 0))

    def test_one_sign(self):
        self.assertEqual(covered(["a"], ["a"]), ("covers", [0]))
        self.assertEqual(covered(["a"], ["b"]), ("bare", 0))

    def test_a_word_as_long_as_the_text_and_longer(self):
        self.assertEqual(covered(letters("abc"), letters("abc")), ("covers", [0]))
        self.assertEqual(covered(letters("abc"), letters("abd")), ("bare", 0))
        self.assertEqual(covered(letters("abc"), letters("abca")), ("bare", 0))
        self.assertEqual(covered(["a"], ["a"] * 200), ("bare", 0))

    def test_two_hundred_signs(self):
        with soon():
            self.assertEqual(covered(["a"] * 200, ["a"]), ("covers", list(range(200))))
            self.assertEqual(covered(["a"] * 200, ["a"] * 200), ("covers", [0]))
            self.assertEqual(covered(["a"] * 200, ["a"] * 100), ("covers", list(range(101))))
            self.assertEqual(covered(["a"] * 199 + ["b"], ["a"]), ("bare", 199))
            self.assertEqual(covered(["a"] * 199, ["a"] * 200), ("bare", 0))

    def test_all_short_texts(self):
        for text in all_texts("ab", 6, 1):
            for word in all_texts("ab", 7, 1):
                self.assertEqual(covered(text, word), plain_covered(text, word), (text, word))
        for text in all_texts("abc", 5, 1):
            for word in all_texts("abc", 3, 1):
                self.assertEqual(covered(text, word), plain_covered(text, word), (text, word))


class Covers(unittest.TestCase):
    def test_ordinary_texts(self):
        self.assertEqual(all_covers(letters("abaababaaba")), [3, 6, 11])
        self.assertEqual(shortest_cover(letters("abaababaaba")), 3)
        self.assertIs(is_bare(letters("abaababaaba")), False)
        # A border that leaves signs bare is no cover.
        self.assertEqual(all_covers(letters("abcab")), [5])
        self.assertEqual(shortest_cover(letters("abcab")), 5)
        self.assertIs(is_bare(letters("abcab")), True)

    def test_one_sign(self):
        self.assertEqual(all_covers(["q"]), [1])
        self.assertEqual(shortest_cover(["q"]), 1)
        self.assertIs(is_bare(["q"]), True)

    def test_one_letter_alone(self):
        with soon():
            for length in (2, 3, 50, 200):
                self.assertEqual(all_covers(["z"] * length), list(range(1, length + 1)))
                self.assertEqual(shortest_cover(["z"] * length), 1)
                self.assertIs(is_bare(["z"] * length), False)

    def test_two_hundred_signs(self):
        with soon():
            text = letters("ab" * 100)
            self.assertEqual(all_covers(text), list(range(2, 201, 2)))
            self.assertEqual(shortest_cover(text), 2)
            self.assertIs(is_bare(text), False)
            text = ["a"] * 199 + ["b"]
            self.assertEqual(all_covers(text), [200])
            self.assertEqual(shortest_cover(text), 200)
            self.assertIs(is_bare(text), True)

    def test_all_short_texts(self):
        for text in [*all_texts("ab", 9, 1), *all_texts("xyz", 6, 1)]:
            due = plain_all_covers(text)
            self.assertEqual(all_covers(text), due, text)
            self.assertEqual(shortest_cover(text), due[0], text)
            self.assertIs(is_bare(text), due == [len(text)], text)


class Layings(unittest.TestCase):
    def test_is_laying(self):
        text, word = letters("ababa"), letters("aba")
        self.assertIs(is_laying(text, word, [0, 2]), True)
        text, word = letters("aaaa"), letters("aa")
        self.assertIs(is_laying(text, word, [0, 2]), True)
        self.assertIs(is_laying(text, word, [0, 1, 2]), True)
        self.assertIs(is_laying(text, word, [0, 1]), False)
        self.assertIs(is_laying(text, word, [1, 2]), False)
        self.assertIs(is_laying(["a"] * 5, word, [0, 3]), False)
        self.assertIs(is_laying(letters("abab"), letters("ab"), [0, 1, 2]), False)

    def test_no_places_are_none(self):
        for text in all_texts("ab", 4, 1):
            for word in all_texts("ab", 4, 1):
                self.assertIs(is_laying(text, word, []), False)

    def test_places_that_do_not_rise_or_come_twice(self):
        text, word = letters("aaaa"), letters("aa")
        for places in ([2, 0], [2, 1, 0], [0, 2, 1], [1, 0, 2], [0, 0, 2], [0, 2, 2], [0, 1, 1, 2], [0, 2, 0, 2]):
            self.assertIs(is_laying(text, word, places), False, places)
        self.assertIs(is_laying(["a"], ["a"], [0, 0]), False)

    def test_places_outside_the_text(self):
        text, word = letters("aaaa"), letters("aa")
        huge = 10 ** 59
        for places in (
            [-1, 0, 2], [-2, 0, 2], [-4, -2], [-4, 0, 2], [0, 2, 3], [0, 2, 4], [0, 2, 5], [-huge, 0, 2], [0, 2, huge],
            [-1], [4], [huge], [-huge],
        ):
            self.assertIs(is_laying(text, word, places), False, places)
        self.assertIs(is_laying(["a"], ["a"], [-1]), False)
        self.assertIs(is_laying(["a"], ["a"], [1]), False)

    def test_a_word_as_long_as_the_text_and_longer(self):
        self.assertIs(is_laying(letters("abc"), letters("abc"), [0]), True)
        self.assertIs(is_laying(letters("abc"), letters("abca"), [0]), False)
        self.assertEqual(fewest_layings(letters("abc"), letters("abc")), [0])
        self.assertEqual(how_many_layings(letters("abc"), letters("abc")), 1)
        self.assertEqual(how_many_layings(letters("abc"), letters("abca")), 0)
        assert_refused(self, NoCover, fewest_layings, letters("abc"), letters("abca"))

    def test_one_sign(self):
        self.assertIs(is_laying(["a"], ["a"], [0]), True)
        self.assertEqual(fewest_layings(["a"], ["a"]), [0])
        self.assertEqual(how_many_layings(["a"], ["a"]), 1)
        self.assertIs(is_laying(["a"], ["b"], [0]), False)
        self.assertEqual(how_many_layings(["a"], ["b"]), 0)
        assert_refused(self, NoCover, fewest_layings, ["a"], ["b"])

    def test_the_first_of_the_fewest(self):
        self.assertEqual(fewest_layings(letters("aaaa"), letters("aa")), [0, 2])
        self.assertEqual(fewest_layings(letters("aaaaa"), letters("aa")), [0, 1, 3])
        self.assertEqual(fewest_layings(letters("aaaaaaa"), letters("aaa")), [0, 1, 4])
        self.assertEqual(fewest_layings(letters("aaaaaaaa"), letters("aaa")), [0, 2, 5])

    def test_how_many(self):
        self.assertEqual(how_many_layings(letters("aaa"), letters("aa")), 1)
        self.assertEqual(how_many_layings(letters("aaaa"), letters("aa")), 2)
        self.assertEqual(how_many_layings(letters("aaaaa"), letters("aa")), 3)
        self.assertEqual(how_many_layings(letters("aaaaaa"), letters("aa")), 5)
        self.assertEqual(how_many_layings(letters("aaaaaaa"), letters("aaa")), 7)
        self.assertEqual(how_many_layings(letters("abab"), letters("ab")), 1)
        self.assertEqual(how_many_layings(letters("abc"), letters("ab")), 0)

    def test_two_hundred_signs(self):
        with soon():
            text = ["a"] * 200
            self.assertEqual(fewest_layings(text, ["a"]), list(range(200)))
            self.assertEqual(how_many_layings(text, ["a"]), 1)
            self.assertEqual(fewest_layings(text, ["a"] * 200), [0])
            self.assertEqual(how_many_layings(text, ["a"] * 200), 1)
            self.assertEqual(fewest_layings(text, ["a"] * 2), list(range(0, 200, 2)))
            self.assertEqual(fewest_layings(["a"] * 199, ["a"] * 2), [0] + list(range(1, 199, 2)))
            self.assertEqual(fewest_layings(text, ["a"] * 100), [0, 100])
            self.assertEqual(fewest_layings(text, ["a"] * 99), [0, 2, 101])
            # From 0 to 100 every set of the places between may be laid.
            self.assertEqual(how_many_layings(text, ["a"] * 100), 2 ** 99)
            # By steps of one or two places: the numbers of Fibonacci.
            low, high = 1, 1
            for step in range(198):
                low, high = high, low + high
            self.assertEqual(how_many_layings(text, ["a"] * 2), low)
            self.assertEqual(how_many_layings(["a"] * 199 + ["b"], ["a"]), 0)
            self.assertIs(is_laying(text, ["a"], list(range(200))), True)
            self.assertIs(is_laying(text, ["a"], list(range(199))), False)
            self.assertIs(is_laying(text, ["a"], list(range(300))), False)
            self.assertIs(is_laying(text, ["a"], [0] * 300), False)

    def test_not_covered(self):
        for text, word in (("aba", "ab"), ("bab", "ab"), ("abcab", "ab"), ("a", "b"), ("ab", "abab")):
            assert_refused(self, NoCover, fewest_layings, letters(text), letters(word))
            self.assertEqual(how_many_layings(letters(text), letters(word)), 0)

    def test_all_short_texts(self):
        for text in [*all_texts("ab", 6, 1), ["a"] * 9, letters("abaababaaba"), letters("ababababa")]:
            for word in all_texts("ab", 4, 1):
                self.hold_layings(text, word)
        for text in all_texts("abc", 4, 1):
            for word in all_texts("abc", 2, 1):
                self.hold_layings(text, word)

    def hold_layings(self, text, word):
        due = plain_layings(text, word)
        self.assertEqual(how_many_layings(text, word), len(due), (text, word))
        self.assertEqual(covered(text, word)[0], "covers" if due else "bare", (text, word))
        if due:
            self.assertEqual(fewest_layings(text, word), due[0], (text, word))
        else:
            assert_refused(self, NoCover, fewest_layings, text, word)

    def test_all_short_lists_of_places(self):
        for text in (["a"], ["a"] * 3, ["a"] * 4, letters("abab"), letters("aabaa")):
            for word in all_texts("ab", 3, 1):
                for many in range(5):
                    for places in itertools.product(range(-1, len(text) + 1), repeat=many):
                        due = plain_is_laying(text, word, list(places))
                        self.assertIs(is_laying(text, word, list(places)), due, (text, word, places))


class Refusals(unittest.TestCase):
    def test_no_word_goes_first(self):
        for deed in WORD_DEEDS:
            for text in ([], ["a"], letters("abab"), ["A"], ["a", "", "b"], ["ab"]):
                assert_refused(self, NoWord, deed, text, [])

    def test_no_sign_goes_ahead_of_no_text_and_no_cover(self):
        for sign in NO_SIGNS:
            for wrong in ([sign], [sign, "a"], ["a", sign, "b"], ["a", "b", sign]):
                for deed in WORD_DEEDS:
                    assert_refused(self, NoSign, deed, wrong, ["a"])
                    assert_refused(self, NoSign, deed, wrong, letters("ab") * 4)
                    assert_refused(self, NoSign, deed, letters("abab"), wrong)
                    assert_refused(self, NoSign, deed, ["a"], wrong)
                    assert_refused(self, NoSign, deed, [], wrong)
                    assert_refused(self, NoSign, deed, wrong, wrong)
                for deed in TEXT_DEEDS:
                    assert_refused(self, NoSign, deed, wrong)

    def test_no_text_goes_ahead_of_no_cover(self):
        for deed in WORD_DEEDS:
            for word in (["a"], letters("abab"), ["z"] * 200):
                assert_refused(self, NoText, deed, [], word)
        for deed in TEXT_DEEDS:
            assert_refused(self, NoText, deed, [])


if __name__ == "__main__":
    unittest.main()
