"""Points 4, 24, 25 and 26: how many texts a word covers, and which has which number."""

import unittest

from overlaid.counted import count_covered, length_of, number_of, text_at
from overlaid.covers import covered
from overlaid.errors import NoCover, NoNumber, NoSign, NoText, NoWord
from tests.plain import NO_SIGNS, Reader, all_texts, assert_refused, grown_texts, letters, soon, tried_texts

HUGE = 10 ** 59
WRONG_LENGTHS = (0, -1, -2, -200, 201, 202, 300, HUGE, -HUGE)
LONG_WORDS = (
    "a", "ab", "aba", "bab", "abaab", "aabaa", "cbcab", "abacaba", "aabaaabaa", "zazaz", "abcabdabcab", "zyxzyzzyxzy",
    "a" * 30, "ab" * 20, "a" * 9 + "b" + "a" * 9, "b" * 5 + "a" + "b" * 5,
)


def words():
    return [*all_texts("ab", 5, 1), *all_texts("abc", 3, 1)]


def of_length(texts, length):
    return [text for text in texts if len(text) == length]


class PlainReckoning(unittest.TestCase):
    def test_texts_that_are_read_are_all_that_are_covered(self):
        for word in [*all_texts("ab", 4, 1), letters("abcab"), letters("cbc")]:
            reader, texts = Reader(word), tried_texts(word, sorted(set(word)), 8)
            for length in range(9):
                found = of_length(texts, length)
                self.assertEqual(reader.count_covered(length), len(found), (word, length))
                self.assertEqual([reader.number_of(text) for text in found], list(range(len(found))))


class CountCovered(unittest.TestCase):
    def assert_told(self, word, counts):
        told = [count_covered(letters(word), length) for length in range(1, len(counts) + 1)]
        self.assertEqual(told, counts)

    def test_ordinary_words(self):
        self.assert_told("aba", [0, 0, 1, 0, 1, 1, 1, 2, 2, 3, 4, 5])
        self.assert_told("ab", [0, 1, 0, 1, 0, 1, 0, 1])
        self.assert_told("abaab", [0, 0, 0, 0, 1, 0, 0, 1, 0, 1, 1, 0, 2, 1])

    def test_a_text_counts_once_however_it_is_laid(self):
        self.assert_told("a", [1] * 12)
        self.assert_told("aaa", [0, 0] + [1] * 12)
        self.assert_told("abab", [0, 0, 0, 1, 0, 1, 0, 1, 0, 1])

    def test_lengths_below_the_words(self):
        for word in ("ab", "abaab", "a" * 200):
            for length in (1, len(word) - 1):
                self.assertEqual(count_covered(letters(word), length), 0)
            self.assertEqual(count_covered(letters(word), len(word)), 1)

    def test_all_texts_of_the_words_letters_and_one_more(self):
        for word in [*all_texts("ab", 4, 1), letters("bca"), letters("cac")]:
            signs = sorted({*word, "b", "c"})
            texts = tried_texts(word, signs, 7)
            for length in range(1, 8):
                self.assertEqual(count_covered(word, length), len(of_length(texts, length)), (word, length))

    def test_longer_texts(self):
        for word in words():
            texts = grown_texts(word, 16)
            for length in range(1, 17):
                self.assertEqual(count_covered(word, length), len(of_length(texts, length)), (word, length))

    def test_lengths_up_to_two_hundred(self):
        with soon():
            for word in LONG_WORDS:
                reader = Reader(word)
                for length in range(1, 201):
                    self.assertEqual(count_covered(letters(word), length), reader.count_covered(length), (word, length))

    def test_numbers_of_many_figures(self):
        self.assertEqual(count_covered(letters("aba"), 200), 470629993890734894631592)
        self.assertEqual(Reader("aba").count_covered(200), 470629993890734894631592)

    def test_words_of_two_hundred_signs(self):
        with soon():
            for word in ("a" * 200, "ab" * 100, "a" * 100 + "b" + "a" * 99):
                self.assertEqual(count_covered(letters(word), 200), 1)
                self.assertEqual(count_covered(letters(word), 199), 0)

    def test_a_length_that_is_refused(self):
        for word in (["a"], letters("aba"), ["a"] * 200):
            for length in WRONG_LENGTHS:
                assert_refused(self, NoNumber, count_covered, word, length)

    def test_a_word_is_refused_ahead(self):
        for length in (*WRONG_LENGTHS, 1, 2, 200):
            assert_refused(self, NoWord, count_covered, [], length)
            for sign in NO_SIGNS:
                assert_refused(self, NoSign, count_covered, [sign], length)
                assert_refused(self, NoSign, count_covered, ["a", sign, "b"], length)


class NumberOf(unittest.TestCase):
    def assert_told(self, word, texts):
        told = [number_of(letters(word), letters(text)) for text in texts]
        self.assertEqual(told, list(range(len(texts))))

    def test_ordinary_words(self):
        self.assert_told("aba", ["abaababa", "ababaaba"])
        self.assert_told("aba", ["abaabaababa", "abaababaaba", "ababaabaaba", "abababababa"])
        self.assert_told("bab", ["bababbab", "babbabab"])
        self.assert_told("aba", ["aba"])
        self.assert_told("a", ["aaaaaa"])

    def test_all_short_words(self):
        for word in words():
            texts = grown_texts(word, 14)
            for length in range(1, 15):
                for number, text in enumerate(of_length(texts, length)):
                    self.assertEqual(number_of(word, text), number, (word, text))

    def test_texts_of_two_hundred_signs(self):
        with soon():
            for word in LONG_WORDS:
                reader, many = Reader(word), count_covered(letters(word), 200)
                for length in range(1, 201):
                    reader.count_covered(length)
                for number in {0, 1, many // 3, many // 2, many - 2, many - 1}:
                    if 0 <= number < many:
                        text = text_at(letters(word), 200, number)
                        self.assertEqual(reader.number_of(text), number, (word, number))
                        self.assertEqual(number_of(letters(word), text), number, (word, number))

    def test_a_text_that_is_not_covered_is_refused(self):
        for text, word in (("abab", "aba"), ("aba", "abab"), ("b", "a"), ("abcab", "ab"), ("a" * 199 + "b", "a")):
            assert_refused(self, NoCover, number_of, letters(word), letters(text))
        for word in all_texts("ab", 3, 1):
            held = tried_texts(word, "abc", 5)
            for text in all_texts("abc", 5, 1):
                if text not in held:
                    assert_refused(self, NoCover, number_of, word, text)

    def test_refusals_in_their_order(self):
        for text in ([], ["a"], letters("abc"), ["A"], ["a", ""]):
            assert_refused(self, NoWord, number_of, [], text)
        for sign in NO_SIGNS:
            for wrong in ([sign], [sign, "a", "b"], ["a", sign, "b"], ["a", "b", sign]):
                assert_refused(self, NoSign, number_of, wrong, [])
                assert_refused(self, NoSign, number_of, wrong, letters("abab"))
                assert_refused(self, NoSign, number_of, ["a"], wrong)
                assert_refused(self, NoSign, number_of, letters("ababab"), wrong)
                assert_refused(self, NoSign, number_of, wrong, wrong)
        for word in (["a"], letters("aba"), ["a"] * 200):
            assert_refused(self, NoText, number_of, word, [])


class TextAt(unittest.TestCase):
    def assert_told(self, word, length, texts):
        told = ["".join(text_at(letters(word), length, number)) for number in range(len(texts))]
        self.assertEqual(told, texts)
        assert_refused(self, NoNumber, text_at, letters(word), length, len(texts))

    def test_ordinary_words(self):
        self.assert_told("aba", 3, ["aba"])
        self.assert_told("aba", 4, [])
        self.assert_told("aba", 8, ["abaababa", "ababaaba"])
        self.assert_told("aba", 11, ["abaabaababa", "abaababaaba", "ababaabaaba", "abababababa"])
        self.assert_told("aaa", 7, ["aaaaaaa"])
        self.assert_told("cbc", 8, ["cbcbccbc", "cbccbcbc"])

    def test_all_short_words(self):
        for word in words():
            texts = grown_texts(word, 14)
            for length in range(1, 15):
                for number, text in enumerate(of_length(texts, length)):
                    self.assertEqual(text_at(word, length, number), text, (word, length, number))
                assert_refused(self, NoNumber, text_at, word, length, len(of_length(texts, length)))

    def test_texts_and_numbers_lead_to_one_another(self):
        with soon():
            for word in LONG_WORDS:
                for length in (1, 2, 37, 101, 199, 200):
                    self.hold(letters(word), length)

    def hold(self, word, length):
        many = count_covered(word, length)
        some = {0, 1, 2, many // 7, many // 3, many // 2, many - 2, many - 1}
        numbers = sorted(number for number in some if 0 <= number < many)
        texts = [text_at(word, length, number) for number in numbers]
        for text, number in zip(texts, numbers):
            self.assertEqual(len(text), length)
            self.assertEqual(covered(text, word)[0], "covers")
            self.assertEqual(number_of(word, text), number)
        for before, behind in zip(texts, texts[1:]):
            self.assertLess(before, behind)

    def test_a_number_of_many_figures(self):
        word, many = letters("aba"), 470629993890734894631592
        self.assertEqual("".join(text_at(word, 200, 0)), "aba" * 66 + "ba")
        self.assertEqual("".join(text_at(word, 200, many - 1)), "ab" * 98 + "aaba")
        assert_refused(self, NoNumber, text_at, word, 200, many)
        assert_refused(self, NoNumber, text_at, word, 200, many + 1)

    def test_a_number_that_is_refused(self):
        for word, length in (("a", 1), ("a", 200), ("aba", 3), ("aba", 11), ("a" * 200, 200)):
            many = count_covered(letters(word), length)
            for number in (-1, -2, -many, many, many + 1, HUGE, -HUGE):
                assert_refused(self, NoNumber, text_at, letters(word), length, number)

    def test_every_number_is_refused_where_there_is_no_text(self):
        for word, length in (("aba", 1), ("aba", 2), ("aba", 4), ("ab", 199), ("a" * 200, 199)):
            for number in (-HUGE, -1, 0, 1, HUGE):
                assert_refused(self, NoNumber, text_at, letters(word), length, number)

    def test_a_length_that_is_refused(self):
        for word in (["a"], letters("aba"), ["a"] * 200):
            for length in WRONG_LENGTHS:
                for number in (-1, 0, 1, HUGE):
                    assert_refused(self, NoNumber, text_at, word, length, number)

    def test_a_word_is_refused_ahead(self):
        for length in (*WRONG_LENGTHS, 1, 2, 200):
            for number in (-1, 0, 1, HUGE):
                assert_refused(self, NoWord, text_at, [], length, number)
                for sign in NO_SIGNS:
                    assert_refused(self, NoSign, text_at, ["a", sign, "b"], length, number)


class LengthOf(unittest.TestCase):
    def assert_told(self, word, many, due):
        self.assertEqual(length_of(letters(word), many), due)

    def test_ordinary_words(self):
        for many, due in ((1, 3), (2, 8), (3, 10), (4, 11), (5, 12)):
            self.assert_told("aba", many, due)

    def test_none_where_there_are_never_so_many(self):
        for word in ("a", "ab", "aaa", "abab", "abc"):
            self.assert_told(word, 1, len(word))
            self.assert_told(word, 2, None)
            self.assert_told(word, HUGE, None)

    def test_the_least_length_though_a_greater_one_has_fewer(self):
        # abaab covers two texts of 13 signs, but one of 14.
        self.assertEqual([count_covered(letters("abaab"), length) for length in (12, 13, 14)], [0, 2, 1])
        self.assert_told("abaab", 2, 13)
        self.assert_told("abaab", 1, 5)

    def test_at_one_below_and_one_beyond_two_hundred(self):
        for word in LONG_WORDS:
            reader = Reader(word)
            counts = [reader.count_covered(length) for length in range(201)]
            for many in {1, 2, 3, counts[199] + 1, counts[200], counts[200] + 1, max(counts), max(counts) + 1, HUGE}:
                if many >= 1:
                    found = [length for length, count in enumerate(counts) if count >= many]
                    self.assert_told(word, many, found[0] if found else None)
        self.assert_told("aba", 470629993890734894631592, 200)
        self.assert_told("aba", 470629993890734894631593, None)

    def test_words_of_two_hundred_signs(self):
        with soon():
            for word in ("a" * 200, "ab" * 100, "a" * 100 + "b" + "a" * 99):
                self.assert_told(word, 1, 200)
                self.assert_told(word, 2, None)

    def test_all_short_words(self):
        for word in words():
            texts = grown_texts(word, 16)
            counts = [len(of_length(texts, length)) for length in range(17)]
            for many in range(1, max(counts) + 1):
                due = min(length for length, count in enumerate(counts) if count >= many)
                self.assertEqual(length_of(word, many), due, (word, many))

    def test_a_number_that_is_refused(self):
        for word in (["a"], letters("aba"), ["a"] * 200):
            for many in (0, -1, -2, -HUGE):
                assert_refused(self, NoNumber, length_of, word, many)

    def test_a_word_is_refused_ahead(self):
        for many in (-HUGE, -1, 0, 1, 2, HUGE):
            assert_refused(self, NoWord, length_of, [], many)
            for sign in NO_SIGNS:
                assert_refused(self, NoSign, length_of, [sign], many)
                assert_refused(self, NoSign, length_of, ["a", sign, "b"], many)


if __name__ == "__main__":
    unittest.main()
