"""The refusals: each a class of its own, straight under CoverError."""


class CoverError(ValueError):
    """Any refusal of this program."""


class NoWord(CoverError):
    """A word without signs."""


class NoSign(CoverError):
    """A sign that is no letter from a to z."""


class NoText(CoverError):
    """A text with too few signs for what is asked."""


class NoCover(CoverError):
    """A word that doesn't cover as it is asked to."""


class NoNumber(CoverError):
    """A number outside the bounds of what is asked."""


class NoChain(CoverError):
    """A list of places that is no chain."""


class TooMany(CoverError):
    """A text with too many signs for what is asked."""


class NoForm(CoverError):
    """What is no desk row, of a kind or form that the desk knows."""


class NoneYet(CoverError):
    """A desk row that wants a text or a word not yet told."""
