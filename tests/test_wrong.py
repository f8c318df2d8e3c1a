"""Points 4, 21, 22 and 23: shifts, chains, and with how few wrong signs a word covers."""

import itertools
import unittest

from overlaid.covers import covered, fewest_layings
from overlaid.errors import NoChain, NoCover, NoNumber, NoSign, NoText, NoWord
from overlaid.wrong import chain_cost, fewest_wrong, nearest_piece, shifts
from tests.plain import (
    NO_SIGNS, all_texts, assert_refused, letters, plain_chains, plain_cost, plain_fewest_wrong, plain_is_chain,
    plain_nearest_piece, plain_shifts, soon,
)

HUGE = 10 ** 59


def cost_of_none(text, word):
    return chain_cost(text, word, [])


def cost_of_some(text, word):
    return chain_cost(text, word, [0, 5, 1, -1])


def cost_of_one(text, word):
    return chain_cost(text, word, [0])


COST_DEEDS = (cost_of_none, cost_of_some, cost_of_one)
WORD_DEEDS = (*COST_DEEDS, fewest_wrong)


def pairs():
    """Texts and words that are no longer than they."""
    for signs, longest in (("ab", 7), ("abc", 5)):
        for text in all_texts(signs, longest, 1):
            for word in all_texts(signs, min(len(text), 4), 1):
                yield text, word
    for text in all_texts("ab", 6, 5):
        for word in all_texts("ab", len(text), 5):
            yield text, word


class Shifts(unittest.TestCase):
    def test_ordinary_words(self):
        self.assertEqual(shifts(letters("abaab")), [3, 5])
        self.assertEqual(shifts(letters("abaaba")), [3, 5, 6])
        self.assertEqual(shifts(letters("ababa")), [2, 4, 5])
        self.assertEqual(shifts(letters("aaaa")), [1, 2, 3, 4])

    def test_its_own_length_is_always_one(self):
        self.assertEqual(shifts(["a"]), [1])
        self.assertEqual(shifts(letters("abc")), [3])
        self.assertEqual(shifts(letters("abcdefghijklmnopqrstuvwxyz")), [26])

    def test_two_hundred_signs(self):
        with soon():
            self.assertEqual(shifts(["a"] * 200), list(range(1, 201)))
            self.assertEqual(shifts(["a"] * 199 + ["b"]), [200])
            self.assertEqual(shifts(letters("ab") * 100), list(range(2, 201, 2)))
            self.assertEqual(shifts(["a"] * 100 + ["b"] + ["a"] * 99), list(range(101, 201)))

    def test_all_short_words(self):
        for word in [*all_texts("ab", 9, 1), *all_texts("abc", 6, 1)]:
            self.assertEqual(shifts(word), plain_shifts(word), word)

    def test_refusals(self):
        assert_refused(self, NoWord, shifts, [])
        for sign in NO_SIGNS:
            for wrong in ([sign], [sign, "a", "b"], ["a", sign, "b"], ["a", "b", sign]):
                assert_refused(self, NoSign, shifts, wrong)


class ChainCost(unittest.TestCase):
    def assert_told(self, text, word, chain, due):
        self.assertEqual(chain_cost(letters(text), letters(word), chain), due)

    def test_ordinary_chains(self):
        self.assert_told("abaababaaba", "aba", [0, 3, 5, 8], 0)
        self.assert_told("abaababaaba", "aba", [0, 2, 5, 8], 2)
        self.assert_told("ababab", "ab", [0, 2, 4], 0)
        self.assert_told("aaaaaa", "ab", [0, 2, 4], 3)
        self.assert_told("cccccc", "ab", [0, 2, 4], 6)
        self.assert_told("abacba", "aba", [0, 3], 1)

    def test_a_sign_under_several_layings_counts_once(self):
        self.assert_told("aabaa", "aaa", [0, 1, 2], 1)
        self.assert_told("bbbbb", "aaa", [0, 1, 2], 5)
        self.assert_told("abbba", "aba", [0, 2], 1)

    def test_the_text_is_as_long_as_the_word(self):
        self.assert_told("abc", "abc", [0], 0)
        self.assert_told("abd", "abc", [0], 1)
        self.assert_told("xyz", "abc", [0], 3)
        self.assert_told("a", "a", [0], 0)
        self.assert_told("b", "a", [0], 1)

    def test_two_hundred_signs(self):
        with soon():
            self.assert_told("a" * 200, "a", list(range(200)), 0)
            self.assert_told("b" * 200, "a", list(range(200)), 200)
            self.assert_told("ab" * 100, "a" * 100, list(range(101)), 100)
            self.assert_told("ab" * 100, "a" * 100, [0, 100], 100)
            self.assert_told("ab" * 100, "ab" * 100, [0], 0)
            self.assert_told("ab" * 100, "ba" * 100, [0], 200)

    def test_all_chains_of_short_words_and_texts(self):
        for text, word in pairs():
            for chain in plain_chains(text, word):
                self.assertEqual(chain_cost(text, word, chain), plain_cost(text, word, chain), (text, word, chain))

    def test_any_list_of_whole_numbers(self):
        for text, word in (("aaaa", "aa"), ("ababa", "aba"), ("abab", "ab"), ("aba", "a"), ("aab", "aab")):
            text, word = letters(text), letters(word)
            for many in range(5):
                for chain in itertools.product(range(-1, 5), repeat=many):
                    self.hold(text, word, list(chain))

    def hold(self, text, word, chain):
        if plain_is_chain(text, word, chain):
            self.assertEqual(chain_cost(text, word, chain), plain_cost(text, word, chain))
        else:
            assert_refused(self, NoChain, chain_cost, text, word, chain)

    def test_what_is_no_chain(self):
        text, word = letters("ababababa"), letters("aba")
        self.assertEqual(chain_cost(text, word, [0, 2, 4, 6]), 0)
        none = (
            [], [0], [6], [2, 4, 6], [0, 2, 4], [0, 2, 4, 6, 8], [0, 1, 4, 6], [0, 2, 2, 4, 6], [0, 2, 6], [0, 6],
            [6, 4, 2, 0], [0, 4, 2, 6], [0, 0, 3, 6], [0, 3, 6, 6], [-3, 0, 3, 6], [0, 3, 6, 9], [0, 3, 6, 3, 6],
            [1, 3, 6], [0, 3, 7], [0, 3, 5], [HUGE], [0, HUGE], [-HUGE, 6], [0, -HUGE, 6], [0, HUGE, 6], [0] * 300,
        )
        for chain in none:
            assert_refused(self, NoChain, chain_cost, text, word, chain)
        self.assertEqual(chain_cost(text, word, [0, 3, 6]), 3)

    def test_no_chain_to_the_end(self):
        for chain in ([0], [0, 1], [0, 2], [0, 3], [1], []):
            assert_refused(self, NoChain, chain_cost, letters("abab"), letters("abc"), chain)


class FewestWrong(unittest.TestCase):
    def assert_told(self, text, word, due):
        self.assertEqual(fewest_wrong(letters(text), letters(word)), due)

    def test_ordinary_texts(self):
        self.assert_told("abaababaaba", "aba", (0, [0, 3, 5, 8]))
        self.assert_told("abacba", "aba", (1, [0, 3]))
        self.assert_told("abcab", "aba", (3, [0, 2]))
        self.assert_told("ccab", "ab", (2, [0, 2]))
        self.assert_told("xyzxyz", "ab", (6, [0, 2, 4]))

    def test_the_least_cost_goes_ahead_of_few_places(self):
        # By threes there would be three places, but three wrong signs too.
        self.assert_told("ababababa", "aba", (0, [0, 2, 4, 6]))
        self.assertEqual(chain_cost(letters("ababababa"), letters("aba"), [0, 3, 6]), 3)

    def test_of_the_least_cost_the_fewest_places(self):
        self.assert_told("aaaaaa", "aaa", (0, [0, 3]))
        self.assert_told("bbbbbb", "aaa", (6, [0, 3]))
        self.assert_told("aaaaaaaa", "aaa", (0, [0, 2, 5]))

    def test_of_the_fewest_places_the_first_as_lists(self):
        self.assert_told("aaaaa", "aaa", (0, [0, 2]))
        self.assert_told("aaaaaaa", "aaa", (0, [0, 1, 4]))
        self.assert_told("cccccccc", "aba", (8, [0, 2, 5]))

    def test_the_text_is_as_long_as_the_word(self):
        self.assert_told("abc", "abc", (0, [0]))
        self.assert_told("abc", "bca", (3, [0]))
        self.assert_told("a", "a", (0, [0]))
        self.assert_told("a", "b", (1, [0]))

    def test_two_hundred_signs(self):
        with soon():
            self.assert_told("a" * 200, "a", (0, list(range(200))))
            self.assert_told("b" * 200, "a", (200, list(range(200))))
            self.assert_told("a" * 200, "a" * 100, (0, [0, 100]))
            self.assert_told("a" * 200, "a" * 99, (0, [0, 2, 101]))
            self.assert_told("ab" * 100, "a" * 50, (100, [0, 50, 100, 150]))
            self.assert_told("ab" * 100, "ab", (0, list(range(0, 200, 2))))
            self.assert_told("ab" * 100, "ba", (200, list(range(0, 200, 2))))
            self.assert_told("ab" * 100, "ab" * 100, (0, [0]))
            self.assert_told("ab" * 50 + "c" + "ba" * 49, "aba", (1, list(range(0, 197, 2))))
            # A text of even length needs a shift of three, and the least harm is done at its end.
            self.assert_told("ab" * 100, "aba", (3, [*range(0, 195, 2), 197]))

    def test_all_short_words_and_texts(self):
        for text, word in pairs():
            due = plain_fewest_wrong(text, word)
            if due is None:
                assert_refused(self, NoCover, fewest_wrong, text, word)
            else:
                told = fewest_wrong(text, word)
                self.assertEqual(told, due, (text, word))
                self.assertEqual(chain_cost(text, word, told[1]), told[0])

    def test_without_wrong_signs_it_is_the_fewest_layings(self):
        for text, word in pairs():
            if covered(text, word)[0] == "covers":
                self.assertEqual(fewest_wrong(text, word), (0, fewest_layings(text, word)), (text, word))
            elif plain_chains(text, word):
                self.assertGreater(fewest_wrong(text, word)[0], 0, (text, word))

    def test_no_chain_is_refused(self):
        for text, word in (("abab", "abc"), ("aba", "ab"), ("abcdabcda", "abcd"), ("ababa", "abab")):
            assert_refused(self, NoCover, fewest_wrong, letters(text), letters(word))
        assert_refused(self, NoCover, fewest_wrong, ["a"] * 200, letters("abc"))
        assert_refused(self, NoCover, fewest_wrong, ["a"] * 200, ["b"] + ["a"] * 198)


class RefusalsOfBoth(unittest.TestCase):
    def test_a_word_without_signs_is_refused_ahead(self):
        for text in ([], ["a"], letters("abc"), ["A"], ["a", ""], ["ab"]):
            for deed in WORD_DEEDS:
                assert_refused(self, NoWord, deed, text, [])

    def test_a_sign_that_is_no_letter_is_refused(self):
        for sign in NO_SIGNS:
            for wrong in ([sign], [sign, "a", "b"], ["a", sign, "b"], ["a", "b", sign]):
                for deed in WORD_DEEDS:
                    assert_refused(self, NoSign, deed, wrong, ["a"])
                    assert_refused(self, NoSign, deed, wrong, letters("abab"))
                    assert_refused(self, NoSign, deed, letters("abab"), wrong)
                    assert_refused(self, NoSign, deed, [], wrong)
                    assert_refused(self, NoSign, deed, wrong, wrong)

    def test_a_text_that_is_shorter_than_the_word_is_refused(self):
        for text, word in (("", "a"), ("", "abc"), ("a", "ab"), ("a", "aa"), ("ab", "aba"), ("a" * 199, "a" * 200)):
            for deed in WORD_DEEDS:
                assert_refused(self, NoText, deed, letters(text), letters(word))
            for chain in ([0], [-1], [0, -1], [len(text) - len(word)], [0, len(text) - len(word)]):
                assert_refused(self, NoText, chain_cost, letters(text), letters(word), chain)


class NearestPiece(unittest.TestCase):
    def assert_told(self, text, many, due):
        self.assertEqual(nearest_piece(letters(text), many), due)

    def test_ordinary_texts(self):
        self.assert_told("abaababaaba", 3, (0, 0))
        self.assert_told("abacba", 3, (1, 0))
        self.assert_told("abbb", 1, (1, 1))
        self.assert_told("abcab", 1, (3, 0))
        self.assert_told("xabab", 1, (3, 1))
        self.assert_told("cabaab", 3, (1, 0))

    def test_the_first_of_those_with_the_least_cost(self):
        self.assert_told("abba", 1, (2, 0))
        self.assert_told("cabba", 1, (3, 1))
        self.assert_told("abcd", 1, (3, 0))
        self.assert_told("abcd", 2, (2, 0))

    def test_pieces_without_a_chain_are_left_out(self):
        # Of three signs only aba may be laid twice in five.
        self.assert_told("xyaba", 3, (2, 2))
        self.assert_told("xyabaaba", 3, (2, 2))

    def test_none_where_no_piece_has_a_chain(self):
        self.assert_told("abc", 2, None)
        self.assert_told("abcde", 3, None)
        self.assert_told("abcdefg", 4, None)
        self.assert_told("abcdefghijklmnopqrstuvwxyz" * 7, 181, None)

    def test_the_text_itself(self):
        for text in ("a", "ab", "abcab", "aaaa", "ab" * 100):
            self.assert_told(text, len(text), (0, 0))

    def test_two_hundred_signs(self):
        with soon():
            for many in (1, 2, 67, 100, 199, 200):
                self.assert_told("a" * 200, many, (0, 0))
            self.assert_told("ab" * 100, 1, (100, 0))
            self.assert_told("ab" * 100, 2, (0, 0))
            self.assert_told("ab" * 100, 3, (3, 0))
            self.assert_told("ab" * 100, 100, (0, 0))
            self.assert_told("a" + "b" * 199, 1, (1, 1))
            self.assert_told("ab" * 99 + "aa", 2, (1, 0))

    def test_all_short_texts(self):
        for text in [*all_texts("ab", 7, 1), *all_texts("abc", 5, 1)]:
            for many in range(1, len(text) + 1):
                self.assertEqual(nearest_piece(text, many), plain_nearest_piece(text, many), (text, many))

    def test_a_number_that_is_refused(self):
        for text in ([], ["a"], letters("abab"), ["a"] * 200):
            for many in (0, -1, -2, -len(text), len(text) + 1, len(text) + 2, 201, 300, HUGE, -HUGE):
                assert_refused(self, NoNumber, nearest_piece, text, many)

    def test_every_number_is_refused_of_no_signs(self):
        for many in (-HUGE, -1, 0, 1, 2, HUGE):
            assert_refused(self, NoNumber, nearest_piece, [], many)

    def test_a_sign_that_is_no_letter_is_refused_ahead(self):
        for sign in NO_SIGNS:
            for wrong in ([sign], [sign, "a", "b"], ["a", sign, "b"], ["a", "b", sign]):
                for many in (-1, 0, 1, 2, len(wrong), len(wrong) + 1, HUGE):
                    assert_refused(self, NoSign, nearest_piece, wrong, many)


if __name__ == "__main__":
    unittest.main()
