"""Points 29 and 30: the desk, its rows and its refusals."""

import unittest

from overlaid.desk import Desk
from overlaid.errors import CoverError, NoCover, NoForm, NoneYet, NoNumber, NoText
from tests.plain import (
    Reader, all_texts, assert_refused, plain_all_covers, plain_covered, plain_fewest_wrong, plain_layings,
    plain_places, plain_rests, soon,
)

PRINTED = [chr(number) for number in range(32, 127)]
SMALL = [chr(number) for number in range(97, 123)]
FIGURES = [str(number) for number in range(10)]

OF_TEXT = ("covers", "shortest")
OF_WORD = ("texts 0", "texts 1", "texts 11", "texts 200", "texts 201", "texts 999")
OF_BOTH = ("lies", "laid", "fewest", "wrong", "ends")
QUESTIONS = (*OF_TEXT, *OF_WORD, *OF_BOTH)

NO_FORMS = (
    "", " ", "  ", "-", "?", "~", "abc", "5",
    "text", "text ", "text  ", "text  abc", " text abc", "text abc ", "text a b", "text A", "text aB", "text a1",
    "text 1", "text --", "text -a", "text a-", "text - ", "text  -", "texta", "text-", "text=abc", "Text abc",
    "TEXT abc", "tex abc", "text,abc", "text a,b", "text a" + " b" * 100, "text " + "a" * 199 + "A",
    "word", "word ", "word -", "word --", "word  ab", " word ab", "word ab ", "word a b", "word A", "word a1",
    "word 1", "word a-", "wordab", "words ab", "Word ab", "word " + "a" * 199 + "-",
    "cover", "covers ", " covers", "covers 1", "covers a", "covers -", "Covers", "COVERS", "covers covers", "coversa",
    "shortest ", "shortest 1", " shortest", "Shortest", "short", "shortes",
    "lies ", "lies a", "lies 0", " lies", "Lies", "lie", "laid ", "laid 1", " laid", "Laid", "lai",
    "fewest ", "fewest 3", " fewest", "Fewest", "few", "wrong ", "wrong ab", "wrong 1", " wrong", "Wrong",
    "ends ", "ends yes", "ends behind", " ends", "Ends", "end",
    "texts", "texts ", "texts  ", "texts  1", " texts 1", "texts 1 ", "texts 1 2", "texts -1", "texts +1", "texts -0",
    "texts 00", "texts 01", "texts 000", "texts 001", "texts 007", "texts 0200", "texts 1000", "texts 1234",
    "texts " + "9" * 60, "texts 1.5", "texts 1.0", "texts 1.", "texts .5", "texts 0.5", "texts 2.0", "texts 1,5",
    "texts a", "texts 1a", "texts a1", "texts 0x1", "texts 1e1", "texts 1_0", "texts -", "texts aba", "texts1",
    "Texts 1", "signs 3", "signs", "bare 1", "covers 3 6", "lies at", "say", "x" * 300, " " * 300,
)

# What is no text is no row either, even where its parts would make one.
NO_TEXTS = (
    None, True, False, 0, 1, -1, 3, 10 ** 59, b"", b"covers", b"text ab", b"texts 1", bytearray(b"laid"),
    [], [None], [[]], ["covers"], ["text ab"], ["text", "ab"], ["text", " ", "ab"], list("covers"), list("text ab"),
    (), (None,), ("covers",), ("text", "ab"), ("text", " ", "ab"), ("texts", 1), tuple("laid"),
    {}, {"text": "ab"}, {"covers": True}, {"word": ["a"]}, set(), {"covers"}, frozenset(), frozenset({"text ab"}),
    range(0), range(3), str, Desk, len,
)


def told(*rows):
    """A desk that was told these rows."""
    desk = Desk()
    for row in rows:
        desk.say(row)
    return desk


def answers(desk):
    """What it answers to every question, or by which refusal."""
    found = []
    for row in QUESTIONS:
        try:
            found.append(desk.say(row))
        except CoverError as refusal:
            found.append(type(refusal))
    return found


def blanks(numbers):
    return " ".join(str(number) for number in numbers)


class Rows(unittest.TestCase):
    def assert_told(self, desk, row, due):
        answer = desk.say(row)
        self.assertIs(type(answer), str)
        self.assertEqual(answer, due, row)

    def test_text_and_word_tell_how_many_signs(self):
        desk = Desk()
        for row, due in (
            ("text abc", "signs 3"), ("text a", "signs 1"), ("text -", "signs 0"), ("text " + "z" * 200, "signs 200"),
            ("word ab", "signs 2"), ("word z", "signs 1"), ("word " + "a" * 200, "signs 200"),
            ("text text", "signs 4"), ("word word", "signs 4"), ("text covers", "signs 6"),
        ):
            self.assert_told(desk, row, due)

    def test_ordinary_questions(self):
        desk = told("text abaababaaba", "word aba")
        for row, due in (
            ("covers", "3 6 11"), ("shortest", "aba"), ("lies", "0 3 5 8"), ("laid", "covers 4"),
            ("fewest", "0 3 5 8"), ("wrong", "0: 0 3 5 8"), ("texts 11", "4"), ("ends", "yes yes yes"),
        ):
            self.assert_told(desk, row, due)

    def test_a_word_that_leaves_signs_bare(self):
        desk = told("text abcabd", "word ab")
        for row, due in (
            ("covers", "6"), ("shortest", "abcabd"), ("lies", "0 3"), ("laid", "bare 2"), ("wrong", "4: 0 2 4"),
            ("texts 6", "1"), ("texts 5", "0"), ("ends", "no no no"),
        ):
            self.assert_told(desk, row, due)
        self.assert_told(told("text abba", "word aba"), "lies", "-")
        self.assert_told(told("text ba", "word ab"), "laid", "bare 0")
        self.assert_told(told("text aab", "word a"), "laid", "bare 2")

    def test_fewest_layings_and_all_places(self):
        desk = told("text aaaa", "word aa")
        self.assert_told(desk, "lies", "0 1 2")
        self.assert_told(desk, "laid", "covers 3")
        self.assert_told(desk, "fewest", "0 2")
        self.assert_told(desk, "wrong", "0: 0 2")

    def test_rests(self):
        for text, word, due in (
            ("abab", "ab", "yes yes yes"), ("ababa", "ab", "yes no yes"), ("babab", "ab", "no yes yes"),
            ("baba", "ab", "no no yes"), ("abba", "ab", "no no no"), ("b", "abc", "no no yes"),
        ):
            self.assert_told(told("text " + text, "word " + word), "ends", due)

    def test_a_text_without_signs(self):
        desk = told("text -", "word a")
        self.assert_told(desk, "lies", "-")
        self.assert_told(desk, "texts 1", "1")

    def test_one_sign(self):
        desk = told("text q", "word q")
        for row, due in (
            ("covers", "1"), ("shortest", "q"), ("lies", "0"), ("laid", "covers 1"), ("fewest", "0"),
            ("wrong", "0: 0"), ("texts 1", "1"), ("ends", "yes yes yes"),
        ):
            self.assert_told(desk, row, due)
        self.assert_told(told("text q", "word r"), "wrong", "1: 0")

    def test_lengths_of_one_to_three_figures(self):
        desk = told("word aba")
        for row, due in (
            ("texts 1", "0"), ("texts 2", "0"), ("texts 3", "1"), ("texts 9", "2"), ("texts 10", "3"),
            ("texts 200", "470629993890734894631592"),
        ):
            self.assert_told(desk, row, due)
        reader = Reader("aba")
        for length in range(1, 201):
            self.assert_told(desk, f"texts {length}", str(reader.count_covered(length)))

    def test_two_hundred_signs(self):
        with soon():
            desk = told("text " + "ab" * 100, "word ab")
            evens = blanks(range(0, 200, 2))
            self.assert_told(desk, "covers", evens[2:] + " 200")
            for row, due in (
                ("shortest", "ab"), ("lies", evens), ("laid", "covers 100"), ("fewest", evens),
                ("wrong", "0: " + evens), ("texts 200", "1"), ("ends", "yes yes yes"),
            ):
                self.assert_told(desk, row, due)

    def test_what_is_told_last_holds(self):
        desk = told("text abab", "word ab")
        self.assert_told(desk, "laid", "covers 2")
        desk.say("word aba")
        self.assert_told(desk, "laid", "bare 3")
        desk.say("text ababa")
        self.assert_told(desk, "laid", "covers 2")
        desk.say("text -")
        assert_refused(self, NoText, desk.say, "laid")
        desk.say("text b")
        self.assert_told(desk, "lies", "-")

    def test_either_may_be_told_first(self):
        self.assertEqual(answers(told("text abab", "word ab")), answers(told("word ab", "text abab")))

    def test_all_short_texts_and_words(self):
        desk = Desk()
        for text in all_texts("ab", 6, 1):
            desk.say("text " + "".join(text))
            self.hold_text(desk, text)
            for word in all_texts("ab", 3, 1):
                desk.say("word " + "".join(word))
                self.hold_both(desk, text, word)

    def hold_text(self, desk, text):
        covers = plain_all_covers(text)
        self.assert_told(desk, "covers", blanks(covers))
        self.assert_told(desk, "shortest", "".join(text[:covers[0]]))

    def hold_both(self, desk, text, word):
        kind, found = plain_covered(text, word)
        self.assert_told(desk, "lies", blanks(plain_places(text, word)) or "-")
        if kind == "covers":
            self.assert_told(desk, "laid", f"covers {len(found)}")
            self.assert_told(desk, "fewest", blanks(plain_layings(text, word)[0]))
        else:
            self.assert_told(desk, "laid", f"bare {found}")
            assert_refused(self, NoCover, desk.say, "fewest")
        self.assert_told(desk, "ends", " ".join("yes" if one else "no" for one in plain_rests(text, word)))
        best = plain_fewest_wrong(text, word)
        if len(text) < len(word):
            assert_refused(self, NoText, desk.say, "wrong")
        elif best is None:
            assert_refused(self, NoCover, desk.say, "wrong")
        else:
            self.assert_told(desk, "wrong", f"{best[0]}: {blanks(best[1])}")


class Forms(unittest.TestCase):
    def hold_refused(self, desk, row, due):
        before = answers(desk)
        assert_refused(self, due, desk.say, row)
        self.assertEqual(answers(desk), before, row)

    def test_rows_without_a_form(self):
        for rows in ((), ("text abab",), ("word ab",), ("text abab", "word ab"), ("text -", "word ab")):
            desk = told(*rows)
            before = answers(desk)
            for row in NO_FORMS:
                assert_refused(self, NoForm, desk.say, row)
            self.assertEqual(answers(desk), before)

    def test_each_row_without_a_form_changes_nothing(self):
        desk = told("text abab", "word ab")
        for row in NO_FORMS:
            self.hold_refused(desk, row, NoForm)

    def test_what_is_no_text(self):
        for rows in ((), ("text abab",), ("word ab",), ("text abab", "word ab"), ("text -", "word ab")):
            for row in NO_TEXTS:
                with self.subTest(rows=rows, row=row):
                    self.hold_refused(told(*rows), row, NoForm)

    def test_objects_are_no_rows(self):
        for row in (object(), Desk(), told("text ab"), NoForm("covers")):
            desk = told("text abab", "word ab")
            with self.assertRaises(NoForm):
                desk.say(row)
            self.assertEqual(desk.say("lies"), "0 2")

    def test_rows_of_signs_beyond_the_printed_ones(self):
        desk = told("text abab", "word ab")
        for sign in ("\n", "\r", "\t", "\x00", "\x7f", "\x85", "\xa0", "\xb2", "\xe4", "\u0430", "\u0661", "\uff41"):
            for row in (
                f"text{sign}ab", f"text ab{sign}", f"text {sign}", f"word{sign}ab", f"word {sign}b", f"texts{sign}1",
                f"texts 1{sign}", f"texts {sign}", f"covers{sign}", f"{sign}laid", sign,
            ):
                self.hold_refused(desk, row, NoForm)

    def test_every_sign_behind_a_name(self):
        desk = told("text abab", "word ab")
        for name, allowed in (("text", [*SMALL, "-"]), ("word", SMALL), ("texts", FIGURES)):
            for sign in PRINTED:
                if sign not in allowed:
                    assert_refused(self, NoForm, desk.say, f"{name} {sign}")
                elif name != "texts":
                    self.assertEqual(told().say(f"{name} {sign}"), f"signs {0 if sign == '-' else 1}")
        self.assertEqual(desk.say("laid"), "covers 2")

    def test_every_sign_within_a_row(self):
        desk = told("text abab", "word ab")
        for sign in PRINTED:
            if sign not in SMALL:
                for row in (f"text a{sign}b", f"word a{sign}b", f"text {sign}ab", f"word {sign}ab", f"text ab{sign}"):
                    assert_refused(self, NoForm, desk.say, row)
            if sign not in FIGURES:
                for row in (f"texts 1{sign}", f"texts {sign}1", f"texts 1{sign}1"):
                    assert_refused(self, NoForm, desk.say, row)
            for row in (*OF_TEXT, *OF_BOTH):
                assert_refused(self, NoForm, desk.say, row + sign)
                assert_refused(self, NoForm, desk.say, sign + row)
        self.assertEqual(desk.say("laid"), "covers 2")

    def test_all_lengths_of_up_to_three_figures_have_a_form(self):
        desk = told("word a")
        for length in range(1000):
            if 1 <= length <= 200:
                self.assertEqual(desk.say(f"texts {length}"), "1")
            else:
                assert_refused(self, NoNumber, desk.say, f"texts {length}")

    def test_at_first_neither_is_told(self):
        for row in QUESTIONS:
            assert_refused(self, NoneYet, Desk().say, row)

    def test_what_is_not_told_yet(self):
        text, word = told("text abab"), told("word ab")
        for row in (*OF_WORD, *OF_BOTH):
            assert_refused(self, NoneYet, text.say, row)
        for row in (*OF_TEXT, *OF_BOTH):
            assert_refused(self, NoneYet, word.say, row)
        for row in OF_TEXT:
            self.assertIs(type(text.say(row)), str)
        self.assertEqual(word.say("texts 4"), "1")

    def test_what_is_not_told_goes_ahead_of_what_the_stages_refuse(self):
        desk = told("text -")
        for row in (*OF_WORD, *OF_BOTH):
            assert_refused(self, NoneYet, desk.say, row)
        assert_refused(self, NoneYet, Desk().say, "texts 0")
        assert_refused(self, NoneYet, Desk().say, "texts 201")

    def test_a_refused_text_or_word_leaves_none_told(self):
        desk = Desk()
        for row in ("text A", "text", "text a b", "word -", "word", "word A"):
            assert_refused(self, NoForm, desk.say, row)
        for row in QUESTIONS:
            assert_refused(self, NoneYet, desk.say, row)

    def test_as_the_stages_refuse(self):
        for row in ("covers", "shortest", "laid", "fewest", "wrong", "ends"):
            self.hold_refused(told("text -", "word a"), row, NoText)
        self.hold_refused(told("text abab", "word aba"), "fewest", NoCover)
        self.hold_refused(told("text ab", "word aba"), "fewest", NoCover)
        self.hold_refused(told("text abab", "word abc"), "wrong", NoCover)
        self.hold_refused(told("text ab", "word aba"), "wrong", NoText)
        for row in ("texts 0", "texts 201", "texts 999"):
            self.hold_refused(told("text abab", "word ab"), row, NoNumber)


class Desks(unittest.TestCase):
    def test_two_desks_beside_one_another(self):
        one, other = Desk(), Desk()
        one.say("text abab")
        assert_refused(self, NoneYet, other.say, "covers")
        other.say("word a")
        assert_refused(self, NoneYet, one.say, "lies")
        other.say("text aaa")
        one.say("word ab")
        self.assertEqual(one.say("lies"), "0 2")
        self.assertEqual(other.say("lies"), "0 1 2")
        assert_refused(self, NoForm, one.say, "text A")
        one.say("text -")
        self.assertEqual(other.say("covers"), "1 2 3")
        self.assertEqual(answers(Desk()), [NoneYet] * len(QUESTIONS))

    def test_being_asked_again_tells_the_same(self):
        desk = told("text abaababaaba", "word aba")
        first = answers(desk)
        self.assertEqual(answers(desk), first)
        self.assertEqual(answers(told("text abaababaaba", "word aba")), first)
        for row in reversed(QUESTIONS):
            try:
                desk.say(row)
            except CoverError:
                pass
        self.assertEqual(answers(desk), first)


if __name__ == "__main__":
    unittest.main()
