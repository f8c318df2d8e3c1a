"""With how few wrong signs a word covers a text: chains of layings, and what they cost."""

from overlaid.borders import periods
from overlaid.borders import piece_places
from overlaid.errors import NoChain
from overlaid.errors import NoCover
from overlaid.signs import check_fits
from overlaid.signs import check_signs
from overlaid.signs import check_within
from overlaid.signs import check_word


def shifts(word):
    """All shifts by which the word may be laid over itself, or right behind itself, rising."""
    check_word(word)
    return periods(word)


def is_chain(word, chain, length):
    """Whether these places go from 0 on by shifts of the word to the end of a text of this length."""
    if len(chain) == 0 or chain[0] != 0 or chain[-1] != length - len(word):
        return False
    steps = shifts(word)
    return all([behind - before in steps for before, behind in zip(chain, chain[1:])])


def laid_out(word, chain):
    """The text that the word makes, laid at all places of the chain."""
    text = list(word)
    for before, behind in zip(chain, chain[1:]):
        text.extend(word[len(word) - (behind - before):])
    return text


def chain_cost(text, word, chain):
    """How many signs of the text are not those that the word has there, laid along the chain."""
    check_fits(text, word)
    if not is_chain(word, chain, len(text)):
        raise NoChain("the places don't go by shifts of the word from the text's begin to its end")
    return sum([1 for sign, due in zip(text, laid_out(word, chain)) if sign != due])


def wrong_among_first(text, word, place):
    """For each number from 0 on of the word's first signs, laid at this place, how many of them are wrong."""
    numbers = [0]
    for sign, due in zip(text[place:], word):
        numbers.append(numbers[-1] + (0 if sign == due else 1))
    return numbers


def best_ways(text, word):
    """(cost from there on, how many places, the one behind) of the best way on to the text's end, by its first place.

    Places from which no chain goes to the end are left out.
    """
    steps = shifts(word)
    last = len(text) - len(word)
    best = {last: (wrong_among_first(text, word, last)[-1], 1, last)}
    for place in reversed(range(last)):
        wrong = wrong_among_first(text, word, place)
        ways = []
        for step in steps:
            if place + step in best:
                cost, many, behind = best[place + step]
                # Signs under the laying behind are counted there, so only those ahead of it are counted here.
                ways.append((wrong[step] + cost, many + 1, place + step))
        if ways:
            best[place] = min(ways)
    return best


def fewest_wrong(text, word):
    """(least cost of all chains, the chain of the fewest places that has it, of these the first as lists)."""
    check_fits(text, word)
    best = best_ways(text, word)
    if 0 not in best:
        raise NoCover("the word has no chain to the end of the text")
    chain = [0]
    while chain[-1] < len(text) - len(word):
        cost, many, behind = best[chain[-1]]
        chain.append(behind)
    return (best[0][0], chain)


def nearest_piece(text, many):
    """(cost, first place) of the first piece of so many signs with the fewest wrong signs, or None without a chain."""
    check_signs(text)
    check_within(many, 1, len(text))
    nearest = None
    for piece, places in piece_places(text, many).items():
        best = best_ways(text, list(piece))
        if 0 in best and (nearest is None or best[0][0] < nearest[0]):
            nearest = (best[0][0], places[0])
    return nearest
