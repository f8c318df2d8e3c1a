"""Points 4, 18, 19 and 20: how much of a text is covered, and what is bare."""

import unittest

from overlaid.bare import how_covered, length_for, most_covering
from overlaid.covers import covered
from overlaid.errors import NoNumber, NoSign, NoText, NoWord
from tests.plain import (
    NO_SIGNS, all_texts, assert_refused, letters, plain_how_covered, plain_length_for, plain_most_covering, soon,
)

HUGE = 10 ** 59


class HowCovered(unittest.TestCase):
    def assert_told(self, text, word, due):
        self.assertEqual(how_covered(letters(text), letters(word)), due)

    def test_ordinary_texts(self):
        self.assert_told("abab", "ab", (4, []))
        self.assert_told("abcab", "ab", (4, [(2, 3)]))
        self.assert_told("cabccabc", "ab", (4, [(0, 1), (3, 5), (7, 8)]))
        self.assert_told("babab", "aba", (3, [(0, 1), (4, 5)]))
        self.assert_told("abcabcc", "abc", (6, [(6, 7)]))
        self.assert_told("cccab", "ab", (2, [(0, 3)]))

    def test_layings_over_one_another_count_each_sign_once(self):
        self.assert_told("ababa", "aba", (5, []))
        self.assert_told("aaaab", "aa", (4, [(4, 5)]))
        self.assert_told("baaaa", "aaa", (4, [(0, 1)]))

    def test_a_word_that_lies_nowhere(self):
        self.assert_told("abc", "d", (0, [(0, 3)]))
        self.assert_told("abc", "cb", (0, [(0, 3)]))
        self.assert_told("a", "b", (0, [(0, 1)]))

    def test_no_signs_and_one(self):
        self.assert_told("", "a", (0, []))
        self.assert_told("", "abab", (0, []))
        self.assert_told("a", "a", (1, []))

    def test_a_word_as_long_as_the_text_and_longer(self):
        self.assert_told("abc", "abc", (3, []))
        self.assert_told("abc", "abca", (0, [(0, 3)]))
        self.assert_told("a", "a" * 200, (0, [(0, 1)]))

    def test_two_hundred_signs(self):
        with soon():
            self.assert_told("a" * 200, "a", (200, []))
            self.assert_told("a" * 200, "a" * 120, (200, []))
            self.assert_told("a" * 199, "a" * 200, (0, [(0, 199)]))
            self.assert_told("ab" * 100, "a", (100, [(at, at + 1) for at in range(1, 200, 2)]))
            self.assert_told("ab" * 100, "b", (100, [(at, at + 1) for at in range(0, 200, 2)]))
            self.assert_told("b" * 50 + "a" * 100 + "b" * 50, "aa", (100, [(0, 50), (150, 200)]))

    def test_all_short_texts(self):
        for text in all_texts("ab", 6):
            for word in all_texts("ab", 7, 1):
                self.hold(text, word)
        for text in all_texts("abc", 5):
            for word in all_texts("abc", 3, 1):
                self.hold(text, word)

    def hold(self, text, word):
        told = how_covered(text, word)
        self.assertEqual(told, plain_how_covered(text, word), (text, word))
        if text:
            # Just one is told: that the word covers, or which sign is the first bare one.
            kind, what = covered(text, word)
            self.assertEqual(told[1] == [], kind == "covers")
            if kind == "bare":
                self.assertEqual(told[1][0][0], what)

    def test_a_word_without_signs_is_refused_ahead(self):
        for text in ([], ["a"], letters("abc"), ["A"], ["a", ""], ["ab"]):
            assert_refused(self, NoWord, how_covered, text, [])

    def test_a_sign_that_is_no_letter_is_refused(self):
        for sign in NO_SIGNS:
            for wrong in ([sign], [sign, "a", "b"], ["a", sign, "b"], ["a", "b", sign]):
                assert_refused(self, NoSign, how_covered, wrong, ["a"])
                assert_refused(self, NoSign, how_covered, wrong, letters("ab") * 4)
                assert_refused(self, NoSign, how_covered, letters("abab"), wrong)
                assert_refused(self, NoSign, how_covered, [], wrong)
                assert_refused(self, NoSign, how_covered, wrong, wrong)


class MostCovering(unittest.TestCase):
    def assert_told(self, text, many, due):
        self.assertEqual(most_covering(letters(text), many), due)

    def test_ordinary_texts(self):
        self.assert_told("abcab", 1, (2, 0))
        self.assert_told("abcab", 2, (4, 0))
        self.assert_told("abcab", 3, (3, 0))
        self.assert_told("abbb", 1, (3, 1))
        self.assert_told("cabab", 2, (4, 1))
        self.assert_told("abaababaaba", 3, (11, 0))

    def test_the_first_piece_of_those_that_cover_the_most(self):
        self.assert_told("abba", 1, (2, 0))
        self.assert_told("cabba", 1, (2, 1))
        self.assert_told("abab", 3, (3, 0))
        self.assert_told("cbaba", 1, (2, 1))

    def test_layings_over_one_another_count_each_sign_once(self):
        # aba lies twice, over itself, and covers five signs, not six.
        self.assert_told("xyzyzxababa", 3, (5, 6))
        self.assert_told("aaabbbcbbb", 3, (6, 3))
        self.assert_told("aaaabcbc", 2, (4, 0))

    def test_the_text_itself(self):
        for text in ("a", "ab", "abcab", "aaaa"):
            self.assert_told(text, len(text), (len(text), 0))

    def test_two_hundred_signs(self):
        with soon():
            for many in (1, 2, 3, 99, 100, 101, 199, 200):
                self.assert_told("a" * 200, many, (200, 0))
                self.assert_told("ab" * 100, many, (100 if many == 1 else 200 - many % 2, 0))
            self.assert_told("a" + "b" * 199, 1, (199, 1))
            self.assert_told("a" + "b" * 199, 199, (199, 0))

    def test_all_short_texts(self):
        for text in [*all_texts("ab", 8, 1), *all_texts("abc", 6, 1)]:
            for many in range(1, len(text) + 1):
                self.assertEqual(most_covering(text, many), plain_most_covering(text, many), (text, many))

    def test_a_number_that_is_refused(self):
        for text in ([], ["a"], letters("abab"), ["a"] * 200):
            for many in (0, -1, -2, -len(text), len(text) + 1, len(text) + 2, 201, 300, HUGE, -HUGE):
                assert_refused(self, NoNumber, most_covering, text, many)
        assert_refused(self, NoNumber, most_covering, [], 1)

    def test_a_sign_that_is_no_letter_is_refused_ahead(self):
        for sign in NO_SIGNS:
            for wrong in ([sign], [sign, "a", "b"], ["a", sign, "b"], ["a", "b", sign]):
                for many in (-1, 0, 1, 2, len(wrong), len(wrong) + 1, HUGE):
                    assert_refused(self, NoSign, most_covering, wrong, many)


class LengthFor(unittest.TestCase):
    def assert_told(self, text, many, due):
        self.assertEqual(length_for(letters(text), many), due)

    def test_ordinary_texts(self):
        for many, due in ((0, 1), (1, 1), (2, 1), (3, 2), (4, 4), (5, 5)):
            self.assert_told("abcab", many, due)
        for many, due in ((0, 1), (6, 1), (7, 1), (8, 8), (9, 9), (10, 10), (11, 11)):
            self.assert_told("abaababaaba", many, due)

    def test_every_length_from_there_on(self):
        # A piece of two signs covers all four, but none of three does.
        for many, due in ((0, 1), (2, 1), (3, 2), (4, 4)):
            self.assert_told("abab", many, due)

    def test_none_asked_for(self):
        for text in ("a", "ab", "abab", "ab" * 100):
            self.assert_told(text, 0, 1)

    def test_one_sign(self):
        self.assert_told("a", 0, 1)
        self.assert_told("a", 1, 1)

    def test_two_hundred_signs(self):
        with soon():
            for many in (0, 1, 100, 199, 200):
                self.assert_told("a" * 200, many, 1)
            for many, due in ((0, 1), (100, 1), (101, 2), (199, 2), (200, 200)):
                self.assert_told("ab" * 100, many, due)
            for many, due in ((0, 1), (199, 1), (200, 200)):
                self.assert_told("a" + "b" * 199, many, due)
            self.assert_told("abcdefghijklmnopqrstuvwxyz" * 7 + "abcdefghijklmnopqr", 200, 200)

    def test_all_short_texts(self):
        for text in [*all_texts("ab", 7, 1), *all_texts("abc", 5, 1)]:
            for many in range(len(text) + 1):
                self.assertEqual(length_for(text, many), plain_length_for(text, many), (text, many))

    def test_a_number_that_is_refused(self):
        for text in (["a"], letters("abab"), ["a"] * 200):
            for many in (-1, -2, -len(text), len(text) + 1, len(text) + 2, 201, 300, HUGE, -HUGE):
                assert_refused(self, NoNumber, length_for, text, many)

    def test_no_text_goes_ahead_of_no_number(self):
        for many in (-HUGE, -1, 0, 1, 2, HUGE):
            assert_refused(self, NoText, length_for, [], many)

    def test_a_sign_that_is_no_letter_is_refused_ahead(self):
        for sign in NO_SIGNS:
            for wrong in ([sign], [sign, "a", "b"], ["a", sign, "b"], ["a", "b", sign]):
                for many in (-1, 0, 1, 2, len(wrong), len(wrong) + 1, HUGE):
                    assert_refused(self, NoSign, length_for, wrong, many)


if __name__ == "__main__":
    unittest.main()
