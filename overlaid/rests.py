"""Words that cover a text when a rest may hang out at its ends."""

from overlaid.borders import lies_at
from overlaid.borders import piece_places
from overlaid.covers import first_bare
from overlaid.errors import NoCover
from overlaid.signs import check_few
from overlaid.signs import check_signs
from overlaid.signs import check_some
from overlaid.signs import check_word


def check_both(text, word):
    """Refuse what is no word, then a sign that is no letter, then a text without signs."""
    check_word(word)
    check_signs(text)
    check_some(text)


def agrees_at(text, word, place):
    """Whether text and word have the same signs where they meet, the word laid at this place."""
    begin = max(place, 0)
    end = min(place + len(word), len(text))
    return text[begin:end] == word[begin - place:end - place]


def agreeing_places(text, word, first, last):
    """All places from the first to the last at which the word agrees with the text, rising."""
    return [place for place in range(first, last + 1) if agrees_at(text, word, place)]


def places_with_rests(text, word):
    """All places, below 0 too, at which the word agrees with the text and meets a sign of it."""
    return agreeing_places(text, word, 1 - len(word), len(text) - 1)


def leaves_none_bare(text, word, places):
    """Whether the word, laid at these rising places, covers every sign of the text."""
    # Words that hang out ahead and behind meet no sign in common outside the text, so all may be laid at once.
    return first_bare(places, len(word)) >= len(text)


def rest_behind(text, word):
    """Whether the word covers some text that begins with this one."""
    check_both(text, word)
    return leaves_none_bare(text, word, agreeing_places(text, word, 0, len(text) - 1))


def rest_ahead(text, word):
    """Whether the word covers some text that ends with this one."""
    check_both(text, word)
    return leaves_none_bare(text, word, agreeing_places(text, word, 1 - len(word), len(text) - len(word)))


def rest_both(text, word):
    """Whether the word covers some text in which this one stands."""
    check_both(text, word)
    return leaves_none_bare(text, word, places_with_rests(text, word))


def beginnings_with_rest(text):
    """The lengths of the text's beginnings that cover it with a rest behind, rising."""
    check_signs(text)
    check_some(text)
    return [many for many in range(1, len(text) + 1) if rest_behind(text, text[:many])]


def ends_with_rest(text):
    """The lengths of the text's ends that cover it with a rest ahead, rising."""
    check_signs(text)
    check_some(text)
    return [many for many in range(1, len(text) + 1) if rest_ahead(text, text[len(text) - many:])]


def pieces_with_rests(text):
    """(length, first place) of each unlike piece that covers the text with rests at both ends, sorted."""
    check_few(text)
    found = []
    for many in range(1, len(text) + 1):
        for piece, places in piece_places(text, many).items():
            if rest_both(text, list(piece)):
                found.append((many, places[0]))
    return found


def shown_with_rests(text, word):
    """The shortest text that the word covers and in which this one stands."""
    if not rest_both(text, word):
        raise NoCover("the word doesn't cover the text with rests at both ends")
    if len(lies_at(word, text)) > 0:
        return list(word)
    places = places_with_rests(text, word)
    # The less a word hangs out, the farther it reaches into the text: so the least rests do,
    # and no other text is as short.
    ahead = max([place for place in places if place <= 0])
    behind = min([place for place in places if place + len(word) >= len(text)])
    return word[:-ahead] + text + word[len(text) - behind:]
