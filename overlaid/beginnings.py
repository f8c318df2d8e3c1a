"""The covers of every beginning of a text."""

from overlaid.borders import lies_at
from overlaid.signs import check_signs


def covered_beginnings(text, word):
    """All lengths of the text's beginnings that the word covers, rising."""
    lengths = []
    reach = 0
    for place in lies_at(text, word):
        if place > reach:
            return lengths
        # A covered beginning ends where a laying ends, so there is one for each place up to the first gap.
        reach = place + len(word)
        lengths.append(reach)
    return lengths


def covers_by_length(text):
    """For each length from 0 on all covers of the beginning of so many signs, rising."""
    check_signs(text)
    found = [[] for length in range(len(text) + 1)]
    for many in range(1, len(text) + 1):
        for length in covered_beginnings(text, text[:many]):
            found[length].append(many)
    return found


def shortest_covers(text):
    """The shortest cover of each beginning, from one sign on."""
    return [lengths[0] for lengths in covers_by_length(text)[1:]]


def greatest_covers(text):
    """The greatest cover of each beginning, from one sign on, that is shorter than it, or 0."""
    # The last cover of a beginning is the beginning itself.
    return [lengths[-2] if len(lengths) > 1 else 0 for lengths in covers_by_length(text)[1:]]


def cover_tree(text):
    """For each length from 0 on the lengths whose greatest cover it is, rising; 0 stands for none."""
    tree = [[] for length in range(len(text) + 1)]
    for length, cover in enumerate(greatest_covers(text), start=1):
        tree[cover].append(length)
    return tree


def how_many_covers(text):
    """How many covers each beginning has, from one sign on, itself among them."""
    return [len(lengths) for lengths in covers_by_length(text)[1:]]


def most_covers(text):
    """(length, many) of the shortest beginning with the most covers, or None of no signs."""
    numbers = how_many_covers(text)
    if len(numbers) == 0:
        return None
    many = max(numbers)
    return (numbers.index(many) + 1, many)
