"""Points 5, 6 and 7: signs, borders and periods, and where a word lies."""

import unittest

from overlaid.borders import borders, lies_at, periods
from overlaid.errors import NoSign, NoWord
from tests.plain import NO_SIGNS, all_texts, assert_refused, letters, plain_borders, plain_periods, plain_places, soon

ALPHABET = "abcdefghijklmnopqrstuvwxyz"


class Borders(unittest.TestCase):
    def test_no_signs_has_none(self):
        self.assertEqual(borders([]), [])
        self.assertEqual(periods([]), [])

    def test_one_sign(self):
        for sign in ALPHABET:
            self.assertEqual(borders([sign]), [0])
            self.assertEqual(periods([sign]), [1])

    def test_ordinary_texts(self):
        self.assertEqual(borders(letters("abaababaaba")), [0, 1, 3, 6])
        self.assertEqual(periods(letters("abaababaaba")), [5, 8, 10, 11])
        self.assertEqual(borders(letters("ab")), [0])
        self.assertEqual(periods(letters("ab")), [2])
        self.assertEqual(borders(letters("abab")), [0, 2])
        self.assertEqual(periods(letters("abab")), [2, 4])
        self.assertEqual(borders(letters(ALPHABET)), [0])
        self.assertEqual(periods(letters(ALPHABET)), [26])

    def test_one_letter_alone(self):
        self.assertEqual(borders(letters("aaaa")), [0, 1, 2, 3])
        self.assertEqual(periods(letters("aaaa")), [1, 2, 3, 4])

    def test_two_hundred_signs(self):
        with soon():
            self.assertEqual(borders(["z"] * 200), list(range(200)))
            self.assertEqual(periods(["z"] * 200), list(range(1, 201)))
            self.assertEqual(borders(letters("ab" * 100)), list(range(0, 200, 2)))
            self.assertEqual(periods(letters("ab" * 100)), list(range(2, 201, 2)))
            self.assertEqual(borders(["a"] * 199 + ["b"]), [0])
            self.assertEqual(borders(["a"] + ["b"] * 198 + ["a"]), [0, 1])

    def test_all_short_texts(self):
        for text in [*all_texts("ab", 9), *all_texts("xyz", 6)]:
            self.assertEqual(borders(text), plain_borders(text), text)
            self.assertEqual(periods(text), plain_periods(text), text)

    def test_a_sign_that_is_no_letter_is_refused(self):
        for sign in NO_SIGNS:
            for text in ([sign], [sign, "a", "b"], ["a", sign, "b"], ["a", "b", sign]):
                assert_refused(self, NoSign, borders, text)
                assert_refused(self, NoSign, periods, text)


class Places(unittest.TestCase):
    def test_ordinary_texts(self):
        self.assertEqual(lies_at(letters("abababa"), letters("aba")), [0, 2, 4])
        self.assertEqual(lies_at(letters("abcabc"), letters("bc")), [1, 4])
        self.assertEqual(lies_at(letters("abcabc"), letters("cb")), [])
        self.assertEqual(lies_at(letters("zab"), letters("z")), [0])
        self.assertEqual(lies_at(letters("abz"), letters("z")), [2])

    def test_no_signs_in_the_text(self):
        self.assertEqual(lies_at([], ["a"]), [])

    def test_a_word_as_long_as_the_text_and_longer(self):
        self.assertEqual(lies_at(["a"], ["a"]), [0])
        self.assertEqual(lies_at(["a"], ["b"]), [])
        self.assertEqual(lies_at(letters("abc"), letters("abc")), [0])
        self.assertEqual(lies_at(letters("abc"), letters("abd")), [])
        self.assertEqual(lies_at(letters("abc"), letters("abca")), [])
        self.assertEqual(lies_at(letters("aaa"), letters("aaaa")), [])
        self.assertEqual(lies_at(["a"], ["a"] * 200), [])

    def test_two_hundred_signs(self):
        with soon():
            self.assertEqual(lies_at(["a"] * 200, ["a"]), list(range(200)))
            self.assertEqual(lies_at(["a"] * 200, ["a"] * 199), [0, 1])
            self.assertEqual(lies_at(["a"] * 200, ["a"] * 200), [0])
            self.assertEqual(lies_at(["a"] * 199, ["a"] * 200), [])
            self.assertEqual(lies_at(letters("ab" * 100), letters("ba")), list(range(1, 198, 2)))

    def test_all_short_texts(self):
        for text in all_texts("ab", 6):
            for word in all_texts("ab", 7, 1):
                self.assertEqual(lies_at(text, word), plain_places(text, word), (text, word))
        for text in all_texts("abc", 5):
            for word in all_texts("abc", 3, 1):
                self.assertEqual(lies_at(text, word), plain_places(text, word), (text, word))

    def test_a_word_without_signs_is_refused_ahead(self):
        for text in ([], ["a"], letters("abc"), ["A"], ["a", ""], ["ab"]):
            assert_refused(self, NoWord, lies_at, text, [])

    def test_a_sign_that_is_no_letter_is_refused(self):
        for sign in NO_SIGNS:
            for wrong in ([sign], [sign, "a", "b"], ["a", sign, "b"], ["a", "b", sign]):
                assert_refused(self, NoSign, lies_at, wrong, ["a"])
                assert_refused(self, NoSign, lies_at, letters("abab"), wrong)
                assert_refused(self, NoSign, lies_at, [], wrong)
                assert_refused(self, NoSign, lies_at, wrong, wrong)

    def test_every_letter_is_a_sign(self):
        for at, sign in enumerate(ALPHABET):
            self.assertEqual(lies_at(letters(ALPHABET), [sign]), [at])


if __name__ == "__main__":
    unittest.main()
