"""What the tests share: a plain sign-by-sign reckoning, and how a refusal is looked at."""

import contextlib
import copy
import itertools
import signal

from overlaid import errors

CLASSES = (
    errors.NoWord,
    errors.NoSign,
    errors.NoText,
    errors.NoCover,
    errors.NoNumber,
    errors.NoChain,
    errors.TooMany,
    errors.NoForm,
    errors.NoneYet,
)

# Neighbours of a and z, what Python's own tests of letters would let through, and longer or shorter texts.
NO_SIGNS = (
    "A", "Z", "0", "7", " ", "", "ab", "aa", "az", "abc", "a ", " a", "a\n", "`", "{", "@", "[", "-", "_", "~",
    "\n", "\t", "\u00e9", "\u00df", "\u03b1", "\u00aa", "\uff41", "\u0430",
)


def letters(text):
    return list(text)


def all_texts(signs, longest, shortest=0):
    for length in range(shortest, longest + 1):
        for text in itertools.product(signs, repeat=length):
            yield list(text)


def plain_borders(text):
    found = []
    for many in range(len(text)):
        if all(text[at] == text[len(text) - many + at] for at in range(many)):
            found.append(many)
    return found


def plain_periods(text):
    found = []
    for shift in range(1, len(text) + 1):
        if all(text[at] == text[at + shift] for at in range(len(text)) if at + shift < len(text)):
            found.append(shift)
    return found


def lies(text, word, place):
    if place < 0 or place + len(word) > len(text):
        return False
    return all(text[place + at] == word[at] for at in range(len(word)))


def plain_places(text, word):
    return [place for place in range(len(text)) if lies(text, word, place)]


def marks(text, word, places):
    under = [False] * len(text)
    for place in places:
        for at in range(len(word)):
            under[place + at] = True
    return under


def plain_covered(text, word):
    places = plain_places(text, word)
    under = marks(text, word, places)
    if all(under):
        return ("covers", places)
    return ("bare", under.index(False))


def plain_all_covers(text):
    return [many for many in range(1, len(text) + 1) if plain_covered(text, text[:many])[0] == "covers"]


def plain_is_laying(text, word, places):
    if places != sorted(set(places)):
        return False
    if not all(lies(text, word, place) for place in places):
        return False
    return all(marks(text, word, places))


def plain_layings(text, word):
    """All layings, those of fewer places ahead, else as lists: every set of places is tried."""
    found = []
    for many in range(len(text) + 1):
        for places in itertools.combinations(range(len(text)), many):
            if plain_is_laying(text, word, list(places)):
                found.append(list(places))
    return found


def plain_covers_by_length(text):
    """For each beginning, from one sign on, all its covers: each by itself, from its own signs."""
    return [plain_all_covers(text[:length]) for length in range(1, len(text) + 1)]


def plain_covered_beginnings(text, word):
    return [many for many in range(1, len(text) + 1) if plain_covered(text[:many], word)[0] == "covers"]


def stands_in(text, whole):
    return any(lies(whole, text, place) for place in range(len(whole)))


def tried_texts(word, signs, longest):
    """All texts of these signs up to a length that the word covers, shorter ones ahead: every text is tried."""
    return [text for text in all_texts(signs, longest, 1) if plain_covered(text, word)[0] == "covers"]


def grown_texts(word, longest):
    """The same, grown from the word by laying it once more, over or right behind the last time."""
    found = []
    rows = [list(word)] if len(word) <= longest else []
    while rows:
        found.extend(rows)
        longer = set()
        for text in rows:
            for shift in range(1, len(word) + 1):
                end = text[len(text) - len(word) + shift:]
                if word[:len(end)] == end and len(text) + shift <= longest:
                    longer.add(tuple(text + word[len(end):]))
        rows = [list(text) for text in longer]
    unlike = {tuple(text) for text in found}
    return [list(text) for text in sorted(unlike, key=lambda text: (len(text), text))]


def with_rests(text, word):
    """All texts that the word covers which may be needed to show a rest at either end of the text."""
    # A longer one can be cut where a word begins that meets the text's first sign, and ends that meets its last.
    return grown_texts(word, max(len(word), len(text) + 2 * (len(word) - 1)))


def plain_rests(text, word):
    """Whether there is such a text that begins with this one, that ends with it, in which it stands."""
    wholes = with_rests(text, word)
    behind = any(whole[:len(text)] == text for whole in wholes)
    ahead = any(whole[-len(text):] == text for whole in wholes)
    return (behind, ahead, any(stands_in(text, whole) for whole in wholes))


def plain_shown(text, word):
    """The shortest covered text in which this one stands, the first of these, or None."""
    found = [whole for whole in with_rests(text, word) if stands_in(text, whole)]
    return found[0] if found else None


def plain_pieces(text):
    """Each unlike piece with its length and its first place."""
    found = {}
    for length in range(1, len(text) + 1):
        for place in range(len(text) - length + 1):
            found.setdefault(tuple(text[place:place + length]), (length, place))
    return [(list(piece), at) for piece, at in found.items()]


def plain_how_covered(text, word):
    under = marks(text, word, plain_places(text, word))
    runs = []
    for at, held in enumerate(under):
        if not held:
            if runs and runs[-1][1] == at:
                runs[-1] = (runs[-1][0], at + 1)
            else:
                runs.append((at, at + 1))
    return (under.count(True), runs)


def plain_most_covering(text, many):
    numbers = []
    for place in range(len(text) - many + 1):
        numbers.append(plain_how_covered(text, text[place:place + many])[0])
    return (max(numbers), numbers.index(max(numbers)))


def plain_length_for(text, many):
    """The least length so that it and every greater one will do: each length is tried with all above it."""
    lengths = range(1, len(text) + 1)
    will_do = {length: plain_most_covering(text, length)[0] >= many for length in lengths}
    return min(least for least in lengths if all(will_do[length] for length in lengths if length >= least))


def plain_shifts(word):
    found = []
    for shift in range(1, len(word) + 1):
        if all(word[at] == word[at - shift] for at in range(shift, len(word))):
            found.append(shift)
    return found


def plain_is_chain(text, word, chain):
    if not chain or chain[0] != 0 or chain[-1] != len(text) - len(word):
        return False
    return all(chain[at + 1] - chain[at] in plain_shifts(word) for at in range(len(chain) - 1))


def plain_chains(text, word):
    """All chains: every set of places is tried."""
    found = []
    for many in range(len(text) + 1):
        for places in itertools.combinations(range(len(text)), many):
            if plain_is_chain(text, word, list(places)):
                found.append(list(places))
    return found


def plain_cost(text, word, chain):
    """Lays the word at each place by itself; words that lie over one another must agree."""
    laid = [set() for sign in text]
    for place in chain:
        for at, sign in enumerate(word):
            laid[place + at].add(sign)
    assert all(len(signs) == 1 for signs in laid), (text, word, chain)
    return sum(signs != {sign} for sign, signs in zip(text, laid))


def plain_fewest_wrong(text, word):
    """(cost, chain) of the best chain of all, or None without any."""
    ways = [(plain_cost(text, word, chain), len(chain), chain) for chain in plain_chains(text, word)]
    if not ways:
        return None
    cost, many, chain = min(ways)
    return (cost, chain)


def plain_nearest_piece(text, many):
    nearest = None
    for place in range(len(text) - many + 1):
        best = plain_fewest_wrong(text, text[place:place + many])
        if best is not None and (nearest is None or best[0] < nearest[0]):
            nearest = (best[0], place)
    return nearest


class Reader:
    """Counts the texts that a word covers by reading them sign by sign.

    A state is (how many signs of the word's beginning the text ends with, how many of its last signs are bare yet).
    """

    def __init__(self, word):
        self.word = list(word)
        self.signs = sorted(set(word))
        self.known = {}
        self.ways = {}

    def read(self, state, sign):
        """The state behind one more sign, or None where a sign stays bare for good."""
        if (state, sign) not in self.known:
            held, bare = state
            text = self.word[:held] + [sign]
            longest = min(len(text), len(self.word))
            held = max(many for many in range(longest + 1) if text[len(text) - many:] == self.word[:many])
            bare = 0 if held == len(self.word) else bare + 1
            self.known[state, sign] = None if bare > held else (held, bare)
        return self.known[state, sign]

    def count(self, state, left):
        """In how many ways so many more signs lead on to a covered text."""
        if state is None:
            return 0
        if left == 0:
            return 1 if state[1] == 0 else 0
        if (state, left) not in self.ways:
            self.ways[state, left] = sum(self.count(self.read(state, sign), left - 1) for sign in self.signs)
        return self.ways[state, left]

    def count_covered(self, length):
        return self.count((0, 0), length) if length > 0 else 0

    def number_of(self, text):
        """How many covered texts of its length stand ahead of a covered one: at each sign those with a lesser one."""
        state, number = (0, 0), 0
        for at, sign in enumerate(text):
            for other in self.signs:
                if other < sign:
                    number += self.count(self.read(state, other), len(text) - at - 1)
            state = self.read(state, sign)
        return number


def plain_round_covered(text, word):
    places, under = [], set()
    for place in range(len(text)):
        spots = [(place + at) % len(text) for at in range(len(word))]
        if [text[spot] for spot in spots] == word:
            places.append(place)
            under.update(spots)
    bare = [at for at in range(len(text)) if at not in under]
    return ("bare", bare[0]) if bare else ("covers", places)


def plain_round_covers(text):
    first = {}
    for length in range(1, len(text) + 1):
        for place in range(len(text)):
            piece = tuple(text[(place + at) % len(text)] for at in range(length))
            first.setdefault(piece, (length, place))
    return sorted(at for piece, at in first.items() if plain_round_covered(text, list(piece))[0] == "covers")


def assert_refused(case, due, deed, *handed):
    """The deed refuses with just this class, and leaves what was handed in as it was."""
    before = copy.deepcopy(handed)
    try:
        told = deed(*handed)
    except errors.CoverError as refusal:
        case.assertIs(type(refusal), due, handed)
        case.assertIsInstance(refusal, ValueError)
        for other in CLASSES:
            if other is not due:
                case.assertNotIsInstance(refusal, other)
    else:
        case.fail(f"{deed.__name__}{handed} told {told!r} where {due.__name__} is due")
    case.assertEqual(handed, before)


@contextlib.contextmanager
def soon(seconds=60):
    """Fail, rather than hang, where an answer goes through all sets of places."""
    def too_long(number, frame):
        raise AssertionError("this answer takes too long")
    former = signal.signal(signal.SIGALRM, too_long)
    signal.alarm(seconds)
    try:
        yield
    finally:
        signal.alarm(0)
        signal.signal(signal.SIGALRM, former)
