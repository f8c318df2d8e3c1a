"""Words that cover a text, the covers of a text, and the layings of a word."""

from overlaid.borders import borders
from overlaid.borders import lies_at
from overlaid.errors import NoCover
from overlaid.signs import check_some


def first_bare(places, many):
    """The first sign that words of so many signs, laid at these rising places, leave bare."""
    reach = 0
    for place in places:
        if place > reach:
            return reach
        reach = place + many
    return reach


def covered(text, word):
    """("covers", all places of the word), or ("bare", the first sign that none covers)."""
    places = lies_at(text, word)
    check_some(text)
    bare = first_bare(places, len(word))
    if bare < len(text):
        return ("bare", bare)
    return ("covers", places)


def all_covers(text):
    """The lengths of the text's beginnings that cover it, rising."""
    # A cover lies over the first sign and over the last one, so a shorter one is a border.
    lengths = borders(text) + [len(text)]
    check_some(text)
    return [many for many in lengths if many > 0 and covered(text, text[:many])[0] == "covers"]


def shortest_cover(text):
    """The length of the shortest beginning that covers the text."""
    return all_covers(text)[0]


def is_bare(text):
    """Whether nothing shorter than the text covers it."""
    return shortest_cover(text) == len(text)


def is_laying(text, word, places):
    """Whether the word lies at these places, told rising and each once, and covers the text."""
    spots = lies_at(text, word)
    check_some(text)
    for place in places:
        if place not in spots:
            return False
    for before, behind in zip(places, places[1:]):
        if before >= behind:
            return False
    return first_bare(places, len(word)) == len(text)


def within_reach(places, place, many):
    """The places behind this one that leave no bare sign between, for a word of so many signs."""
    return [other for other in places if place < other <= place + many]


def fewest_layings(text, word):
    """The laying with the fewest places, of these the first as lists."""
    kind, found = covered(text, word)
    if kind == "bare":
        raise NoCover("the word doesn't cover the text")
    best = {}
    for place in reversed(found):
        tails = [best[other] for other in within_reach(found, place, len(word))]
        # The tails come by their first places, so min keeps the first as lists of the shortest.
        best[place] = [place] + min(tails, key=len, default=[])
    return best[0]


def how_many_layings(text, word):
    """How many layings of the word there are on the text."""
    kind, found = covered(text, word)
    if kind == "bare":
        return 0
    ways = {}
    for place in reversed(found):
        tails = [ways[other] for other in within_reach(found, place, len(word))]
        # Only the last place has none behind it, and there a laying ends in one way.
        ways[place] = sum(tails) if tails else 1
    return ways[0]
