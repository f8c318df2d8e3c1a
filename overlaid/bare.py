"""How much of a text a word or a piece covers, and what it leaves bare."""

from overlaid.borders import lies_at
from overlaid.borders import piece_places
from overlaid.signs import check_signs
from overlaid.signs import check_some
from overlaid.signs import check_within


def signs_under(places, many):
    """How many signs a word of so many signs covers, laid at these rising places."""
    total = 0
    reach = 0
    for place in places:
        total += place + many - max(place, reach)
        reach = place + many
    return total


def bare_runs(places, many, length):
    """(begin, end) of each run of a text of this length that such a word leaves bare, rising."""
    runs = []
    reach = 0
    # The text's end closes the last run as a laying would.
    for place in places + [length]:
        if place > reach:
            runs.append((reach, place))
        reach = place + many
    return runs


def how_covered(text, word):
    """(how many signs of the text the word covers, the runs that it leaves bare)."""
    places = lies_at(text, word)
    return (signs_under(places, len(word)), bare_runs(places, len(word), len(text)))


def most_covering(text, many):
    """(how many signs it covers, its first place) of the first piece of so many signs that covers the most."""
    check_signs(text)
    check_within(many, 1, len(text))
    best = (0, 0)
    for places in piece_places(text, many).values():
        number = signs_under(places, many)
        if number > best[0]:
            best = (number, places[0])
    return best


def length_for(text, many):
    """The least length from which on each has a piece that covers at least so many signs."""
    check_signs(text)
    check_some(text)
    check_within(many, 0, len(text))
    length = len(text)
    # Longer pieces may cover less than shorter ones, so the walk goes down and ends at the first length that fails.
    while length > 1 and most_covering(text, length - 1)[0] >= many:
        length -= 1
    return length
