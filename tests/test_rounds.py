"""Points 4, 27 and 28: words and pieces that cover a text laid round about."""

import unittest

from overlaid.covers import covered
from overlaid.errors import NoSign, NoText, NoWord, TooMany
from overlaid.rounds import round_covered, round_covers, shortest_round
from tests.plain import (
    NO_SIGNS, all_texts, assert_refused, letters, plain_round_covered, plain_round_covers, soon,
)

ALPHABET = "abcdefghijklmnopqrstuvwxyz"
TEXT_DEEDS = (round_covers, shortest_round)


class RoundCovered(unittest.TestCase):
    def assert_told(self, text, word, due):
        self.assertEqual(round_covered(letters(text), letters(word)), due)

    def test_layings_over_the_end(self):
        self.assert_told("ba", "ab", ("covers", [1]))
        self.assert_told("abaab", "aba", ("covers", [0, 3]))
        self.assert_told("bcabca", "abc", ("covers", [2, 5]))
        self.assert_told("cabcab", "abc", ("covers", [1, 4]))

    def test_layings_that_stay_within(self):
        self.assert_told("abab", "ab", ("covers", [0, 2]))
        self.assert_told("aaa", "a", ("covers", [0, 1, 2]))

    def test_all_places_are_told_though_fewer_would_do(self):
        self.assert_told("aaa", "aa", ("covers", [0, 1, 2]))
        self.assert_told("ababa", "aba", ("covers", [0, 2]))
        self.assert_told("aabaa", "aa", ("bare", 2))

    def test_the_first_bare_sign(self):
        self.assert_told("baab", "ab", ("bare", 0))
        self.assert_told("bcxa", "abc", ("bare", 2))
        self.assert_told("bxxa", "ab", ("bare", 1))
        self.assert_told("abxab", "ab", ("bare", 2))
        self.assert_told("abx", "ab", ("bare", 2))
        self.assert_told("xab", "ab", ("bare", 0))
        self.assert_told("abc", "d", ("bare", 0))
        self.assert_told("abc", "ac", ("bare", 0))

    def test_a_word_as_long_as_the_text(self):
        self.assert_told("abc", "abc", ("covers", [0]))
        self.assert_told("abc", "cab", ("covers", [2]))
        self.assert_told("abc", "acb", ("bare", 0))
        self.assert_told("abab", "baba", ("covers", [1, 3]))
        self.assert_told("aaaa", "aaaa", ("covers", [0, 1, 2, 3]))

    def test_one_sign(self):
        self.assert_told("a", "a", ("covers", [0]))
        self.assert_told("a", "b", ("bare", 0))

    def test_two_hundred_signs(self):
        with soon():
            self.assert_told("a" * 200, "a" * 200, ("covers", list(range(200))))
            self.assert_told("a" * 200, "a", ("covers", list(range(200))))
            self.assert_told("ab" * 100, "ba", ("covers", list(range(1, 200, 2))))
            self.assert_told("ab" * 100, "ba" * 100, ("covers", list(range(1, 200, 2))))
            self.assert_told("a" * 199 + "b", "ba", ("bare", 1))
            self.assert_told("b" + "a" * 199, "a" * 199 + "b", ("covers", [1]))
            self.assert_told("a" * 199 + "b", "a", ("bare", 199))

    def test_all_short_words_and_texts(self):
        for signs, longest in (("ab", 7), ("abc", 5)):
            for text in all_texts(signs, longest, 1):
                for word in all_texts(signs, len(text), 1):
                    self.assertEqual(round_covered(text, word), plain_round_covered(text, word), (text, word))

    def test_a_word_that_covers_the_text_covers_the_round(self):
        for text in all_texts("ab", 7, 1):
            for many in range(1, len(text) + 1):
                kind, places = covered(text, text[:many])
                if kind == "covers":
                    told, found = round_covered(text, text[:many])
                    self.assertEqual(told, "covers")
                    self.assertEqual([place for place in found if place + many <= len(text)], places)

    def test_a_word_without_signs_is_refused_ahead(self):
        for text in ([], ["a"], letters("abc"), ["A"], ["a", ""], ["ab"]):
            assert_refused(self, NoWord, round_covered, text, [])

    def test_a_sign_that_is_no_letter_is_refused(self):
        for sign in NO_SIGNS:
            for wrong in ([sign], [sign, "a", "b"], ["a", sign, "b"], ["a", "b", sign]):
                assert_refused(self, NoSign, round_covered, wrong, ["a"])
                assert_refused(self, NoSign, round_covered, wrong, letters("abab"))
                assert_refused(self, NoSign, round_covered, letters("abab"), wrong)
                assert_refused(self, NoSign, round_covered, [], wrong)
                assert_refused(self, NoSign, round_covered, ["a"], wrong)
                assert_refused(self, NoSign, round_covered, wrong, wrong)

    def test_a_text_that_is_shorter_than_the_word_is_refused(self):
        for text, word in (("", "a"), ("", "abc"), ("a", "aa"), ("ab", "aba"), ("ab", "abab"), ("a" * 199, "a" * 200)):
            assert_refused(self, NoText, round_covered, letters(text), letters(word))


class RoundCovers(unittest.TestCase):
    def assert_told(self, text, due):
        self.assertEqual(round_covers(letters(text)), due)
        self.assertEqual(shortest_round(letters(text)), due[0][0])

    def test_ordinary_texts(self):
        self.assert_told("ab", [(2, 0), (2, 1)])
        self.assert_told("aab", [(3, 0), (3, 1), (3, 2)])
        self.assert_told("abab", [(2, 0), (2, 1), (3, 0), (3, 1), (4, 0), (4, 1)])
        self.assert_told("abaab", [(3, 0), (5, 0), (5, 1), (5, 2), (5, 3), (5, 4)])

    def test_one_sign_and_like_signs(self):
        self.assert_told("a", [(1, 0)])
        self.assert_told("aa", [(1, 0), (2, 0)])
        self.assert_told("aaaa", [(1, 0), (2, 0), (3, 0), (4, 0)])

    def test_forty_signs(self):
        with soon():
            self.assert_told("a" * 40, [(length, 0) for length in range(1, 41)])
            self.assert_told("ab" * 20, [(length, place) for length in range(2, 41) for place in range(2)])
            # What covers this one has its only z, and so lies once.
            self.assert_told((ALPHABET * 2)[:40], [(40, place) for place in range(40)])

    def test_all_short_texts(self):
        for text in [*all_texts("ab", 9, 1), *all_texts("abc", 6, 1)]:
            due = plain_round_covers(text)
            self.assertEqual(round_covers(text), due, text)
            self.assertEqual(shortest_round(text), min(length for length, place in due), text)

    def test_it_is_told_as_of_each_word(self):
        for text in all_texts("ab", 7, 1):
            told = round_covers(text)
            for length in range(1, len(text) + 1):
                for place in range(len(text)):
                    word = (text + text)[place:place + length]
                    kind, places = round_covered(text, word)
                    self.assertEqual(kind == "covers" and places[0] == place, (length, place) in told)

    def test_more_than_forty_signs_are_refused(self):
        for text in (["a"] * 41, letters("ab") * 21, ["a"] * 200, letters(ALPHABET) * 2):
            for deed in TEXT_DEEDS:
                assert_refused(self, TooMany, deed, text)

    def test_a_text_without_signs_is_refused(self):
        for deed in TEXT_DEEDS:
            assert_refused(self, NoText, deed, [])

    def test_a_sign_that_is_no_letter_is_refused_ahead(self):
        for sign in NO_SIGNS:
            wrongs = ([sign], [sign, "a", "b"], ["a", sign, "b"], ["a", "b", sign], ["a"] * 40 + [sign], [sign] * 41)
            for wrong in wrongs:
                for deed in TEXT_DEEDS:
                    assert_refused(self, NoSign, deed, wrong)


if __name__ == "__main__":
    unittest.main()
