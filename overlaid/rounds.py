"""Words that cover a text laid round about, its last sign ahead of its first."""

from overlaid.borders import lies_at
from overlaid.borders import piece_places
from overlaid.covers import first_bare
from overlaid.signs import check_few
from overlaid.signs import check_fits


def once_round(text, many):
    """The text, and as much of it again as a word of so many signs needs to lie at every place."""
    return text + text[:many - 1]


def bare_round(places, many, length):
    """The first sign that such words leave bare, laid at these rising places of a round of this length."""
    # What hangs out behind the last sign lies over the first ones.
    ahead = [place - length for place in places if place + many > length]
    return first_bare(ahead + places, many)


def round_covered(text, word):
    """("covers", all places of the word round about), or ("bare", the first sign that none covers)."""
    check_fits(text, word)
    places = lies_at(once_round(text, len(word)), word)
    bare = bare_round(places, len(word), len(text))
    if bare < len(text):
        return ("bare", bare)
    return ("covers", places)


def round_covers(text):
    """(length, first place) of each unlike piece, round about, that covers the round, sorted."""
    check_few(text)
    found = []
    for many in range(1, len(text) + 1):
        for places in piece_places(once_round(text, many), many).values():
            if bare_round(places, many, len(text)) >= len(text):
                found.append((many, places[0]))
    return found


def shortest_round(text):
    """The length of the shortest piece, round about, that covers the round."""
    return round_covers(text)[0][0]
