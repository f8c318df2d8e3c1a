"""What makes a sign, a word, a text and a number within bounds: the refusals that the points share."""

from overlaid.errors import NoNumber
from overlaid.errors import NoSign
from overlaid.errors import NoText
from overlaid.errors import NoWord
from overlaid.errors import TooMany

# All pieces are looked for in texts of so many signs at most.
MOST_SIGNS = 40


def is_sign(sign):
    """Whether this is a text of one letter from a to z."""
    return isinstance(sign, str) and len(sign) == 1 and "a" <= sign <= "z"


def check_signs(text):
    """Refuse a text with a sign that is no letter."""
    for sign in text:
        if not is_sign(sign):
            raise NoSign("a sign is one letter from a to z")


def check_word(word):
    """Refuse a word without signs, then one with a sign that is no letter."""
    if len(word) == 0:
        raise NoWord("a word has one sign at least")
    check_signs(word)


def check_some(text):
    """Refuse a text without signs."""
    if len(text) == 0:
        raise NoText("the text has no signs")


def check_fits(text, word):
    """Refuse what is no word, then a sign that is no letter, then a text shorter than the word."""
    check_word(word)
    check_signs(text)
    if len(text) < len(word):
        raise NoText("the text has fewer signs than the word")


def check_few(text):
    """Refuse a sign that is no letter, then a text without signs, then one with too many."""
    check_signs(text)
    check_some(text)
    if len(text) > MOST_SIGNS:
        raise TooMany(f"the text has more than {MOST_SIGNS} signs")


def check_within(number, least, most):
    """Refuse a number below the least or above the most."""
    if not least <= number <= most:
        raise NoNumber(f"the number goes from {least} on and up to {most}")
