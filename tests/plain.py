"""What the tests share: a plain sign-by-sign reckoning, and how a refusal is looked at."""

import contextlib
import copy
import itertools
import signal

from overlaid import errors

CLASSES = (
    errors.NoWord,
    errors.NoSign,
    errors.NoText,
    errors.NoCover,
    errors.NoNumber,
    errors.NoChain,
    errors.TooMany,
    errors.NoForm,
    errors.NoneYet,
)

# Neighbours of a and z, what Python's own tests of letters would let through, and longer or shorter texts.
NO_SIGNS = (
    "A", "Z", "0", "7", " ", "", "ab", "aa", "az", "abc", "a ", " a", "a\n", "`", "{", "@", "[", "-", "_", "~",
    "\n", "\t", "\u00e9", "\u00df", "\u03b1", "\u00aa", "\uff41", "\u0430",
)


def letters(text):
    return list(text)


def all_texts(signs, longest, shortest=0):
    for length in range(shortest, longest + 1):
        for text in itertools.product(signs, repeat=length):
            yield list(text)


def plain_borders(text):
    found = []
    for many in range(len(text)):
        if all(text[at] == text[len(text) - many + at] for at in range(many)):
            found.append(many)
    return found


def plain_periods(text):
    found = []
    for shift in range(1, len(text) + 1):
        if all(text[at] == text[at + shift] for at in range(len(text)) if at + shift < len(text)):
            found.append(shift)
    return found


def lies(text, word, place):
    if place < 0 or place + len(word) > len(text):
        return False
    return all(text[place + at] == word[at] for at in range(len(word)))


def plain_places(text, word):
    return [place for place in range(len(text)) if lies(text, word, place)]


def marks(text, word, places):
    under = [False] * len(text)
    for place in places:
        for at in range(len(word)):
            under[place + at] = True
    return under


def plain_covered(text, word):
    places = plain_places(text, word)
    under = marks(text, word, places)
    if all(under):
        return ("covers", places)
    return ("bare", under.index(False))


def plain_all_covers(text):
    return [many for many in range(1, len(text) + 1) if plain_covered(text, text[:many])[0] == "covers"]


def plain_is_laying(text, word, places):
    if places != sorted(set(places)):
        return False
    if not all(lies(text, word, place) for place in places):
        return False
    return all(marks(text, word, places))


def plain_layings(text, word):
    """All layings, those of fewer places ahead, else as lists: every set of places is tried."""
    found = []
    for many in range(len(text) + 1):
        for places in itertools.combinations(range(len(text)), many):
            if plain_is_laying(text, word, list(places)):
                found.append(list(places))
    return found


def assert_refused(case, due, deed, *handed):
    """The deed refuses with just this class, and leaves what was handed in as it was."""
    before = copy.deepcopy(handed)
    try:
        told = deed(*handed)
    except errors.CoverError as refusal:
        case.assertIs(type(refusal), due, handed)
        case.assertIsInstance(refusal, ValueError)
        for other in CLASSES:
            if other is not due:
                case.assertNotIsInstance(refusal, other)
    else:
        case.fail(f"{deed.__name__}{handed} told {told!r} where {due.__name__} is due")
    case.assertEqual(handed, before)


@contextlib.contextmanager
def soon(seconds=60):
    """Fail, rather than hang, where an answer goes through all sets of places."""
    def too_long(number, frame):
        raise AssertionError("this answer takes too long")
    former = signal.signal(signal.SIGALRM, too_long)
    signal.alarm(seconds)
    try:
        yield
    finally:
        signal.alarm(0)
        signal.signal(signal.SIGALRM, former)
