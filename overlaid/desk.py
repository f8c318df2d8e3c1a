"""A desk that is told a text and a word, row by row, and answers what is asked of them."""

from overlaid.borders import lies_at
from overlaid.counted import count_covered
from overlaid.covers import all_covers
from overlaid.covers import covered
from overlaid.covers import fewest_layings
from overlaid.covers import shortest_cover
from overlaid.errors import NoForm
from overlaid.errors import NoneYet
from overlaid.rests import rest_ahead
from overlaid.rests import rest_behind
from overlaid.rests import rest_both
from overlaid.signs import is_sign
from overlaid.wrong import fewest_wrong


def are_letters(row):
    """Whether these are letters from a to z, one at least."""
    return len(row) > 0 and all([is_sign(sign) for sign in row])


def is_length(row):
    """Whether these are one to three figures without a 0 ahead, but 0 itself."""
    if not 1 <= len(row) <= 3 or not all(["0" <= sign <= "9" for sign in row]):
        return False
    return row == "0" or row[0] != "0"


def with_blanks(numbers):
    """The numbers in a row, a blank between."""
    return " ".join([str(number) for number in numbers])


def tell_covers(text):
    """The lengths of the text's covers."""
    return with_blanks(all_covers(text))


def tell_shortest(text):
    """The text's shortest cover itself."""
    return "".join(text[:shortest_cover(text)])


def tell_places(text, word):
    """The places at which the word lies."""
    places = lies_at(text, word)
    return with_blanks(places) if places else "-"


def tell_laid(text, word):
    """At how many places the word covers, or which sign is bare."""
    kind, found = covered(text, word)
    return f"bare {found}" if kind == "bare" else f"covers {len(found)}"


def tell_fewest(text, word):
    """The laying with the fewest places."""
    return with_blanks(fewest_layings(text, word))


def tell_wrong(text, word):
    """The fewest wrong signs, and the chain that has them."""
    cost, chain = fewest_wrong(text, word)
    return f"{cost}: {with_blanks(chain)}"


def tell_ends(text, word):
    """Whether the word covers with a rest behind, ahead, at both ends."""
    held = [rest_behind(text, word), rest_ahead(text, word), rest_both(text, word)]
    return " ".join(["yes" if one else "no" for one in held])


OF_TEXT = {"covers": tell_covers, "shortest": tell_shortest}
OF_BOTH = {
    "lies": tell_places,
    "laid": tell_laid,
    "fewest": tell_fewest,
    "wrong": tell_wrong,
    "ends": tell_ends,
}


class Desk:
    """Keeps the text and the word that it was told last."""

    def __init__(self):
        self.text = None
        self.word = None

    def told_text(self):
        """The text, if one is told."""
        if self.text is None:
            raise NoneYet("no text is told yet")
        return self.text

    def told_word(self):
        """The word, if one is told."""
        if self.word is None:
            raise NoneYet("no word is told yet")
        return self.word

    def say(self, row):
        """The answer to a row."""
        if not isinstance(row, str):
            raise NoForm("a row is a text")
        name, blank, rest = row.partition(" ")
        if name == "text" and (rest == "-" or are_letters(rest)):
            self.text = [] if rest == "-" else list(rest)
            return f"signs {len(self.text)}"
        if name == "word" and are_letters(rest):
            self.word = list(rest)
            return f"signs {len(self.word)}"
        if name == "texts" and is_length(rest):
            return str(count_covered(self.told_word(), int(rest)))
        if row in OF_TEXT:
            deed = OF_TEXT[row]
            return deed(self.told_text())
        if row in OF_BOTH:
            deed = OF_BOTH[row]
            return deed(self.told_text(), self.told_word())
        raise NoForm("the desk knows no such row")
