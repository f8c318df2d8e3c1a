"""Borders and periods of a text, and the places at which a word, or each of its pieces, lies in it."""

from overlaid.signs import check_signs
from overlaid.signs import check_word


def borders(text):
    """All numbers below the text's length of first signs that are its last ones, rising."""
    check_signs(text)
    length = len(text)
    return [many for many in range(length) if text[:many] == text[length - many:]]


def periods(text):
    """All shifts up to the text's length by which its signs come again, rising."""
    return [len(text) - many for many in reversed(borders(text))]


def lies_at(text, word):
    """All places of the text at which the word lies, rising."""
    check_word(word)
    check_signs(text)
    many = len(word)
    return [place for place in range(len(text) - many + 1) if text[place:place + many] == word]


def piece_places(text, many):
    """The unlike pieces of so many signs, as they come in the text, each with all its places, rising."""
    places = {}
    for place in range(len(text) - many + 1):
        piece = tuple(text[place:place + many])
        places.setdefault(piece, []).append(place)
    return places
