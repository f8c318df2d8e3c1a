"""How many texts of a length a word covers, and which one has which number."""

from overlaid.borders import lies_at
from overlaid.covers import covered
from overlaid.errors import NoCover
from overlaid.errors import NoNumber
from overlaid.signs import check_within
from overlaid.signs import check_word
from overlaid.wrong import shifts

# Texts are counted up to this length.
MOST_LENGTH = 200


def single_steps(word):
    """The shifts between which the word lies nowhere else, in the order of the signs that they add."""
    # Each covered text goes by these from place to place in one way alone. None adds what begins with all that
    # another one adds, else the word would lie there too: so the first step that differs tells which text is ahead.
    steps = [step for step in shifts(word) if lies_at(word[:step] + word, word) == [0, step]]
    return sorted(steps, key=lambda step: word[len(word) - step:])


def counts_by_length(word, steps, length):
    """How many texts the word covers by these steps, for each length from 0 to this one at least."""
    counts = [0 for sign in word] + [1]
    while len(counts) <= length:
        counts.append(sum([counts[len(counts) - step] for step in steps]))
    return counts


def count_covered(word, length):
    """How many texts of this length the word covers."""
    check_word(word)
    check_within(length, 1, MOST_LENGTH)
    return counts_by_length(word, single_steps(word), length)[length]


def number_of(word, text):
    """The number of a covered text among those of its length, from 0 on in the order of lists."""
    kind, places = covered(text, word)
    if kind == "bare":
        raise NoCover("the word doesn't cover the text")
    steps = single_steps(word)
    counts = counts_by_length(word, steps, len(text))
    number = 0
    for before, behind in zip(places, places[1:]):
        rest = len(text) - before
        number += sum([counts[rest - step] for step in steps[:steps.index(behind - before)]])
    return number


def next_step(steps, counts, rest, number):
    """(the first step on to the text of this number, among those of so many signs, its number from there on)."""
    at = 0
    left = number
    while left >= counts[rest - steps[at]]:
        left -= counts[rest - steps[at]]
        at += 1
    return (steps[at], left)


def text_at(word, length, number):
    """The covered text of this length and number."""
    check_word(word)
    check_within(length, 1, MOST_LENGTH)
    steps = single_steps(word)
    counts = counts_by_length(word, steps, length)
    check_within(number, 0, counts[length] - 1)
    text = list(word)
    left = number
    while len(text) < length:
        rest = length - len(text) + len(word)
        step, left = next_step(steps, counts, rest, left)
        text.extend(word[len(word) - step:])
    return text


def length_of(word, many):
    """The least length of which the word covers at least so many texts, or None."""
    check_word(word)
    if many < 1:
        raise NoNumber("the number goes from 1 on")
    counts = counts_by_length(word, single_steps(word), MOST_LENGTH)
    for length, count in enumerate(counts[:MOST_LENGTH + 1]):
        if count >= many:
            return length
    return None
