"""Points 4, 15, 16 and 17: words that cover a text with rests at its ends."""

import unittest

from overlaid.covers import covered
from overlaid.errors import NoCover, NoSign, NoText, NoWord, TooMany
from overlaid.rests import (
    beginnings_with_rest, ends_with_rest, pieces_with_rests, rest_ahead, rest_behind, rest_both, shown_with_rests,
)
from tests.plain import (
    NO_SIGNS, all_texts, assert_refused, grown_texts, letters, plain_pieces, plain_rests, plain_shown, soon, stands_in,
    tried_texts,
)

TRUTHS = (rest_behind, rest_ahead, rest_both)
WORD_DEEDS = (*TRUTHS, shown_with_rests)
TEXT_DEEDS = (beginnings_with_rest, ends_with_rest, pieces_with_rests)


def pairs():
    """Texts and words, the word shorter, as long, and longer."""
    for text in all_texts("ab", 5, 1):
        for word in all_texts("ab", 4, 1):
            yield text, word
    for text in all_texts("ab", 3, 1):
        for word in all_texts("ab", 6, 5):
            yield text, word
    for text in all_texts("abc", 4, 1):
        for word in all_texts("abc", 3, 1):
            yield text, word


class PlainReckoning(unittest.TestCase):
    def test_grown_texts_are_all_that_are_covered(self):
        for word in all_texts("ab", 4, 1):
            self.assertEqual(grown_texts(word, 9), tried_texts(word, "ab", 9), word)
        for word in all_texts("abc", 3, 1):
            self.assertEqual(grown_texts(word, 6), tried_texts(word, "abc", 6), word)

    def test_longer_texts_show_no_more(self):
        for text in all_texts("ab", 3, 1):
            for word in all_texts("ab", 3, 1):
                wholes = tried_texts(word, "ab", 9)
                behind = any(whole[:len(text)] == text for whole in wholes)
                ahead = any(whole[-len(text):] == text for whole in wholes)
                both = any(stands_in(text, whole) for whole in wholes)
                self.assertEqual(plain_rests(text, word), (behind, ahead, both), (text, word))


class Rests(unittest.TestCase):
    def assert_rests(self, text, word, due):
        text, word = letters(text), letters(word)
        for deed, truth in zip(TRUTHS, due):
            self.assertIs(deed(text, word), truth, (deed, text, word))

    def test_a_rest_behind(self):
        self.assert_rests("abab", "ab", (True, True, True))
        self.assert_rests("ababa", "ab", (True, False, True))
        self.assert_rests("abaabab", "aba", (True, False, True))
        self.assert_rests("abcab", "abc", (True, False, True))

    def test_a_rest_ahead(self):
        self.assert_rests("babab", "ab", (False, True, True))
        self.assert_rests("bcabc", "abc", (False, True, True))

    def test_rests_at_both_ends(self):
        self.assert_rests("baba", "ab", (False, False, True))
        self.assert_rests("bcabca", "abc", (False, False, True))
        # No word lies whole in this text: one hangs out ahead, one behind.
        self.assert_rests("bcab", "abc", (False, False, True))
        self.assert_rests("ba", "ab", (False, False, True))

    def test_a_bare_sign_within(self):
        self.assert_rests("abcab", "ab", (False, False, False))
        self.assert_rests("bcab", "ab", (False, False, False))
        self.assert_rests("babb", "ab", (False, False, False))
        self.assert_rests("aabb", "ab", (False, False, False))
        self.assert_rests("c", "ab", (False, False, False))

    def test_one_sign(self):
        self.assert_rests("a", "a", (True, True, True))
        self.assert_rests("a", "b", (False, False, False))
        self.assert_rests("a", "ab", (True, False, True))
        self.assert_rests("b", "ab", (False, True, True))
        self.assert_rests("b", "abc", (False, False, True))

    def test_a_word_longer_than_the_text(self):
        self.assert_rests("abc", "abcd", (True, False, True))
        self.assert_rests("bcd", "abcd", (False, True, True))
        self.assert_rests("bc", "abcd", (False, False, True))
        self.assert_rests("aba", "ababa", (True, True, True))
        self.assert_rests("da", "abcd", (False, False, True))
        self.assert_rests("cdab", "abcdabcde", (False, False, True))
        self.assert_rests("db", "abcd", (False, False, False))
        self.assert_rests("a", "b" * 100 + "a" + "b" * 99, (False, False, True))

    def test_a_word_that_hangs_out_has_the_signs_of_the_text(self):
        self.assert_rests("bb", "aba", (False, False, False))
        self.assert_rests("aaa", "aab", (False, False, False))
        self.assert_rests("baa", "aab", (False, False, True))
        self.assert_rests("aab", "aba", (False, False, True))

    def test_two_hundred_signs(self):
        with soon():
            self.assert_rests("a" * 200, "a", (True, True, True))
            self.assert_rests("a" * 200, "a" * 200, (True, True, True))
            self.assert_rests("a" * 199, "a" * 200, (True, True, True))
            self.assert_rests("ab" * 100, "aba", (True, False, True))
            self.assert_rests("ab" * 100, "bab", (False, True, True))
            self.assert_rests("a" * 199 + "b", "b" + "a" * 199, (False, False, True))
            self.assert_rests("a" * 199 + "b", "a" * 199, (False, False, False))
            self.assert_rests("a" * 100 + "b" * 100, "b" * 100 + "a" * 100, (False, False, True))
            self.assert_rests("a" * 100 + "b" * 100, "b" * 99 + "a" * 100, (False, False, False))

    def test_all_short_texts(self):
        for text, word in pairs():
            told = tuple(deed(text, word) for deed in TRUTHS)
            self.assertEqual(told, plain_rests(text, word), (text, word))


class AllWithRests(unittest.TestCase):
    def test_ordinary_texts(self):
        text = letters("abaab")
        self.assertEqual(beginnings_with_rest(text), [3, 4, 5])
        self.assertEqual(ends_with_rest(text), [3, 4, 5])
        self.assertEqual(pieces_with_rests(text), [(3, 0), (3, 1), (3, 2), (4, 0), (4, 1), (5, 0)])
        text = letters("abcab")
        self.assertEqual(beginnings_with_rest(text), [3, 4, 5])
        self.assertEqual(ends_with_rest(text), [3, 4, 5])
        self.assertEqual(pieces_with_rests(text), [(3, 0), (3, 1), (3, 2), (4, 0), (4, 1), (5, 0)])
        text = letters("abb")
        self.assertEqual(beginnings_with_rest(text), [3])
        self.assertEqual(ends_with_rest(text), [3])
        self.assertEqual(pieces_with_rests(text), [(3, 0)])

    def test_each_unlike_piece_once_at_its_first_place(self):
        self.assertEqual(pieces_with_rests(letters("abab")), [(2, 0), (2, 1), (3, 0), (3, 1), (4, 0)])
        self.assertEqual(pieces_with_rests(letters("aaaa")), [(1, 0), (2, 0), (3, 0), (4, 0)])

    def test_one_sign(self):
        for deed in (beginnings_with_rest, ends_with_rest):
            self.assertEqual(deed(["q"]), [1])
        self.assertEqual(pieces_with_rests(["q"]), [(1, 0)])

    def test_two_hundred_signs(self):
        with soon():
            for deed in (beginnings_with_rest, ends_with_rest):
                self.assertEqual(deed(["a"] * 200), list(range(1, 201)))
                self.assertEqual(deed(letters("ab" * 100)), list(range(2, 201)))
                self.assertEqual(deed(["a"] * 199 + ["b"]), [200])
            # A shorter beginning or end leaves some of the fifty signs in the middle bare.
            text = ["a"] * 50 + ["b"] * 50 + ["a"] * 50 + ["b"] * 50
            self.assertEqual(beginnings_with_rest(text), list(range(100, 201)))
            self.assertEqual(ends_with_rest(text), list(range(100, 201)))

    def test_forty_signs_and_more(self):
        with soon():
            self.assertEqual(pieces_with_rests(["a"] * 40), [(many, 0) for many in range(1, 41)])
            self.assertEqual(pieces_with_rests(["a"] * 39 + ["b"])[-1], (40, 0))
            due = [(many, place) for many in range(2, 41) for place in (0, 1) if place + many <= 40]
            self.assertEqual(pieces_with_rests(letters("ab" * 20)), due)
        for length in (41, 42, 200):
            assert_refused(self, TooMany, pieces_with_rests, ["a"] * length)
        self.assertEqual(beginnings_with_rest(["a"] * 41), list(range(1, 42)))
        self.assertEqual(ends_with_rest(["a"] * 41), list(range(1, 42)))

    def test_all_short_texts(self):
        for text in [*all_texts("ab", 7, 1), *all_texts("xyz", 5, 1), letters("abaababaa"), letters("aabaabaab")]:
            self.hold(text)

    def hold(self, text):
        lengths = range(1, len(text) + 1)
        behind = [many for many in lengths if plain_rests(text, text[:many])[0]]
        self.assertEqual(beginnings_with_rest(text), behind, text)
        ahead = [many for many in lengths if plain_rests(text, text[-many:])[1]]
        self.assertEqual(ends_with_rest(text), ahead, text)
        both = [at for piece, at in plain_pieces(text) if plain_rests(text, piece)[2]]
        self.assertEqual(pieces_with_rests(text), sorted(both), text)


class Shown(unittest.TestCase):
    def assert_shown(self, text, word, due):
        self.assertEqual(shown_with_rests(letters(text), letters(word)), letters(due))

    def test_a_covered_text_shows_itself(self):
        self.assert_shown("abab", "ab", "abab")
        self.assert_shown("abaababaaba", "aba", "abaababaaba")
        self.assert_shown("a", "a", "a")

    def test_a_text_within_the_word_shows_the_word(self):
        self.assert_shown("bc", "abcd", "abcd")
        self.assert_shown("a", "bab", "bab")
        self.assert_shown("aa", "aaaa", "aaaa")
        self.assert_shown("aba", "ababa", "ababa")
        self.assert_shown("abc", "abc", "abc")

    def test_the_shortest_rests(self):
        self.assert_shown("ababa", "ab", "ababab")
        self.assert_shown("babab", "ab", "ababab")
        self.assert_shown("baba", "ab", "ababab")
        self.assert_shown("bcab", "abc", "abcabc")
        # Two ends of the word begin the text: the longer one hangs out the least.
        self.assert_shown("abaabab", "aba", "abaababa")
        self.assert_shown("aabaa", "aba", "abaabaaba")
        self.assert_shown("aab", "aba", "abaaba")
        self.assert_shown("aaaaab", "baaaaa", "baaaaabaaaaa")
        self.assert_shown("da", "abcd", "abcdabcd")

    def test_none(self):
        for text, word in (("abcab", "ab"), ("a", "b"), ("bb", "aba"), ("db", "abcd"), ("abab", "aa")):
            assert_refused(self, NoCover, shown_with_rests, letters(text), letters(word))

    def test_two_hundred_signs(self):
        with soon():
            self.assert_shown("a" * 200, "a", "a" * 200)
            self.assert_shown("a" * 199, "a" * 200, "a" * 200)
            self.assert_shown("ab" * 100, "aba", "ab" * 100 + "a")
            self.assert_shown("ab" * 100, "bab", "b" + "ab" * 100)
            text, word = "a" * 100 + "b" * 100, "b" * 100 + "a" * 100
            self.assert_shown(text, word, word + word)
            self.assert_shown("a" * 199 + "b", "b" + "a" * 199, "b" + "a" * 199 + "b" + "a" * 199)

    def test_all_short_texts(self):
        for text, word in pairs():
            due = plain_shown(text, word)
            if due is None:
                assert_refused(self, NoCover, shown_with_rests, text, word)
            else:
                self.assertEqual(shown_with_rests(text, word), due, (text, word))

    def test_it_is_covered_and_the_text_stands_in_it(self):
        for text in all_texts("ab", 7, 1):
            for many in range(1, len(text) + 1):
                for place in range(len(text) - many + 1):
                    word = text[place:place + many]
                    if rest_both(text, word):
                        told = shown_with_rests(text, word)
                        self.assertEqual(covered(told, word)[0], "covers", (text, word))
                        self.assertTrue(stands_in(text, told), (text, word))


class Refusals(unittest.TestCase):
    def test_no_word_goes_first(self):
        for deed in WORD_DEEDS:
            for text in ([], ["a"], letters("abab"), ["A"], ["a", "", "b"], ["ab"]):
                assert_refused(self, NoWord, deed, text, [])

    def test_no_sign_goes_ahead_of_the_others(self):
        for sign in NO_SIGNS:
            for wrong in ([sign], [sign, "a"], ["a", sign, "b"], ["a", "b", sign]):
                for deed in WORD_DEEDS:
                    assert_refused(self, NoSign, deed, wrong, ["a"])
                    assert_refused(self, NoSign, deed, wrong, letters("ab") * 4)
                    assert_refused(self, NoSign, deed, letters("abab"), wrong)
                    assert_refused(self, NoSign, deed, ["a"], wrong)
                    assert_refused(self, NoSign, deed, [], wrong)
                    assert_refused(self, NoSign, deed, wrong, wrong)
                for deed in TEXT_DEEDS:
                    assert_refused(self, NoSign, deed, wrong)
                    assert_refused(self, NoSign, deed, ["a"] * 60 + wrong)

    def test_no_text(self):
        for deed in WORD_DEEDS:
            for word in (["a"], letters("abab"), ["z"] * 200):
                assert_refused(self, NoText, deed, [], word)
        for deed in TEXT_DEEDS:
            assert_refused(self, NoText, deed, [])


if __name__ == "__main__":
    unittest.main()
