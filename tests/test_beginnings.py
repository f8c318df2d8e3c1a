"""Points 4, 11, 12, 13 and 14: the covers of every beginning of a text."""

import unittest

from overlaid.beginnings import (
    cover_tree, covered_beginnings, greatest_covers, how_many_covers, most_covers, shortest_covers,
)
from overlaid.covers import all_covers, covered
from overlaid.errors import NoSign, NoWord
from tests.plain import (
    NO_SIGNS, all_texts, assert_refused, letters, plain_covered_beginnings, plain_covers_by_length, soon,
)

TEXT_DEEDS = (shortest_covers, greatest_covers, cover_tree, how_many_covers, most_covers)


def fibonacci_text(length):
    """A text rich in covers."""
    low, high = ["a"], ["a", "b"]
    while len(high) < length:
        low, high = high, high + low
    return high[:length]


def covers_by_tree(tree, length):
    """The covers of a beginning as the tree tells them: itself and all covers of its greatest one."""
    found = []
    while length > 0:
        found.append(length)
        length = [at for at, children in enumerate(tree) if length in children][0]
    return sorted(found)


class EveryBeginning(unittest.TestCase):
    def test_no_signs(self):
        self.assertEqual(shortest_covers([]), [])
        self.assertEqual(greatest_covers([]), [])
        self.assertEqual(cover_tree([]), [[]])
        self.assertEqual(how_many_covers([]), [])
        self.assertIsNone(most_covers([]))

    def test_one_sign(self):
        for sign in "amz":
            self.assertEqual(shortest_covers([sign]), [1])
            self.assertEqual(greatest_covers([sign]), [0])
            self.assertEqual(cover_tree([sign]), [[1], []])
            self.assertEqual(how_many_covers([sign]), [1])
            self.assertEqual(most_covers([sign]), (1, 1))

    def test_ordinary_texts(self):
        text = letters("abaababaaba")
        self.assertEqual(shortest_covers(text), [1, 2, 3, 4, 5, 3, 7, 3, 9, 5, 3])
        self.assertEqual(greatest_covers(text), [0, 0, 0, 0, 0, 3, 0, 3, 0, 5, 6])
        tree = [[1, 2, 3, 4, 5, 7, 9], [], [], [6, 8], [], [10], [11], [], [], [], [], []]
        self.assertEqual(cover_tree(text), tree)
        self.assertEqual(how_many_covers(text), [1, 1, 1, 1, 1, 2, 1, 2, 1, 2, 3])
        self.assertEqual(most_covers(text), (11, 3))
        text = letters("abcab")
        self.assertEqual(shortest_covers(text), [1, 2, 3, 4, 5])
        self.assertEqual(greatest_covers(text), [0, 0, 0, 0, 0])
        self.assertEqual(cover_tree(text), [[1, 2, 3, 4, 5], [], [], [], [], []])
        self.assertEqual(how_many_covers(text), [1, 1, 1, 1, 1])

    def test_the_least_length_with_the_most_covers(self):
        self.assertEqual(most_covers(letters("abcab")), (1, 1))
        self.assertEqual(most_covers(letters("aab")), (2, 2))
        self.assertEqual(most_covers(letters("aabaab")), (2, 2))
        self.assertEqual(most_covers(letters("ababa")), (4, 2))
        self.assertEqual(most_covers(letters("aaab")), (3, 3))

    def test_one_letter_alone_with_two_hundred_signs(self):
        with soon():
            for length in (2, 3, 200):
                text = ["a"] * length
                self.assertEqual(shortest_covers(text), [1] * length)
                self.assertEqual(greatest_covers(text), list(range(length)))
                self.assertEqual(cover_tree(text), [[at] for at in range(1, length + 1)] + [[]])
                self.assertEqual(how_many_covers(text), list(range(1, length + 1)))
                self.assertEqual(most_covers(text), (length, length))

    def test_two_hundred_signs(self):
        with soon():
            text = letters("ab" * 100)
            self.assertEqual(shortest_covers(text), [1, 2] + [3, 2] * 99)
            self.assertEqual(greatest_covers(text), [0, 0, 0] + list(range(2, 199)))
            self.assertEqual(cover_tree(text), [[1, 2, 3], []] + [[at + 2] for at in range(2, 199)] + [[], []])
            self.assertEqual(how_many_covers(text), [1] + [at // 2 for at in range(2, 201)])
            self.assertEqual(most_covers(text), (200, 100))
            text = ["a"] * 199 + ["b"]
            self.assertEqual(shortest_covers(text), [1] * 199 + [200])
            self.assertEqual(greatest_covers(text), list(range(199)) + [0])
            self.assertEqual(cover_tree(text), [[1, 200]] + [[at] for at in range(2, 200)] + [[], []])
            self.assertEqual(how_many_covers(text), list(range(1, 200)) + [1])
            self.assertEqual(most_covers(text), (199, 199))

    def test_all_short_texts(self):
        for text in [*all_texts("ab", 8), *all_texts("xyz", 5), fibonacci_text(34)]:
            self.hold(text, plain_covers_by_length(text))

    def test_long_texts_against_the_covers_of_each_beginning(self):
        with soon():
            for text in (fibonacci_text(200), letters("aabaabaaab" * 20), letters("abaab" * 40), letters("abcab" * 40)):
                self.hold(text, [all_covers(text[:length]) for length in range(1, len(text) + 1)])

    def hold(self, text, due):
        self.assertEqual(shortest_covers(text), [lengths[0] for lengths in due], text)
        greatest = [max([many for many in lengths[:-1]], default=0) for lengths in due]
        self.assertEqual(greatest_covers(text), greatest, text)
        tree = cover_tree(text)
        self.assertEqual(len(tree), len(text) + 1)
        for length in range(len(text) + 1):
            self.assertEqual(tree[length], [at for at, many in enumerate(greatest, 1) if many == length], text)
        for length, lengths in enumerate(due, 1):
            self.assertEqual(covers_by_tree(tree, length), lengths, text)
        numbers = [len(lengths) for lengths in due]
        self.assertEqual(how_many_covers(text), numbers, text)
        if text:
            most = max(numbers)
            self.assertEqual(most_covers(text), (numbers.index(most) + 1, most), text)

    def test_a_sign_that_is_no_letter_is_refused(self):
        for sign in NO_SIGNS:
            for text in ([sign], [sign, "a", "b"], ["a", sign, "b"], ["a", "b", sign]):
                for deed in TEXT_DEEDS:
                    assert_refused(self, NoSign, deed, text)


class CoveredBeginnings(unittest.TestCase):
    def test_ordinary_texts(self):
        self.assertEqual(covered_beginnings(letters("abaababaaba"), letters("aba")), [3, 6, 8, 11])
        self.assertEqual(covered_beginnings(letters("ababcab"), letters("ab")), [2, 4])
        self.assertEqual(covered_beginnings(letters("aaaa"), letters("aa")), [2, 3, 4])
        self.assertEqual(covered_beginnings(letters("bab"), letters("ab")), [])
        self.assertEqual(covered_beginnings(letters("abc"), letters("d")), [])

    def test_what_comes_behind_a_bare_sign_is_left_out(self):
        self.assertEqual(covered_beginnings(letters("abcababab"), letters("ab")), [2])
        self.assertEqual(covered_beginnings(letters("aabaa"), letters("a")), [1, 2])
        self.assertEqual(covered_beginnings(letters("baaaa"), letters("a")), [])

    def test_no_signs_and_one(self):
        self.assertEqual(covered_beginnings([], ["a"]), [])
        self.assertEqual(covered_beginnings([], letters("abab")), [])
        self.assertEqual(covered_beginnings(["a"], ["a"]), [1])
        self.assertEqual(covered_beginnings(["a"], ["b"]), [])

    def test_a_word_as_long_as_the_text_and_longer(self):
        self.assertEqual(covered_beginnings(letters("abc"), letters("abc")), [3])
        self.assertEqual(covered_beginnings(letters("abc"), letters("abd")), [])
        self.assertEqual(covered_beginnings(letters("abc"), letters("abca")), [])
        self.assertEqual(covered_beginnings(["a"], ["a"] * 200), [])

    def test_two_hundred_signs(self):
        with soon():
            self.assertEqual(covered_beginnings(["a"] * 200, ["a"]), list(range(1, 201)))
            self.assertEqual(covered_beginnings(["a"] * 200, ["a"] * 150), list(range(150, 201)))
            self.assertEqual(covered_beginnings(["a"] * 200, ["a"] * 200), [200])
            self.assertEqual(covered_beginnings(["a"] * 199, ["a"] * 200), [])
            self.assertEqual(covered_beginnings(letters("ab" * 100), letters("aba")), list(range(3, 200, 2)))
            self.assertEqual(covered_beginnings(["a"] * 100 + ["b"] + ["a"] * 99, ["a"] * 3), list(range(3, 101)))

    def test_all_short_texts(self):
        for text in all_texts("ab", 6):
            for word in all_texts("ab", 7, 1):
                self.assertEqual(covered_beginnings(text, word), plain_covered_beginnings(text, word), (text, word))
        for text in all_texts("abc", 5):
            for word in all_texts("abc", 3, 1):
                self.assertEqual(covered_beginnings(text, word), plain_covered_beginnings(text, word), (text, word))

    def test_each_told_beginning_is_covered_and_no_other(self):
        text = fibonacci_text(200)
        with soon():
            for many in range(1, 201, 7):
                word = text[:many]
                due = [at for at in range(1, 201) if covered(text[:at], word)[0] == "covers"]
                self.assertEqual(covered_beginnings(text, word), due, many)

    def test_a_word_without_signs_is_refused_ahead(self):
        for text in ([], ["a"], letters("abc"), ["A"], ["a", ""], ["ab"]):
            assert_refused(self, NoWord, covered_beginnings, text, [])

    def test_a_sign_that_is_no_letter_is_refused(self):
        for sign in NO_SIGNS:
            for wrong in ([sign], [sign, "a", "b"], ["a", sign, "b"], ["a", "b", sign]):
                assert_refused(self, NoSign, covered_beginnings, wrong, ["a"])
                assert_refused(self, NoSign, covered_beginnings, wrong, letters("ab") * 4)
                assert_refused(self, NoSign, covered_beginnings, letters("abab"), wrong)
                assert_refused(self, NoSign, covered_beginnings, [], wrong)
                assert_refused(self, NoSign, covered_beginnings, wrong, wrong)


if __name__ == "__main__":
    unittest.main()
