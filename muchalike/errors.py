"""The refusals: one class for each kind of thing that is refused."""


class LikeError(ValueError):
    """Any refusal."""


class NoKind(LikeError):
    """A kind of share that is none of the five."""


class NoShare(LikeError):
    """A fraction that is no least share."""


class NoSet(LikeError):
    """A list of texts that is no set, or no bag."""


class NoWeight(LikeError):
    """Weights with a text that is no word or a number below 1."""


class NoOrder(LikeError):
    """A list of texts that is no order of the words."""


class NoParts(LikeError):
    """Lists of texts that are no parts of the words."""


class NoWay(LikeError):
    """A way that isn't known."""


class NoName(LikeError):
    """A name that is no word, is taken, or is kept by none."""


class NoSize(LikeError):
    """A size or a count that is too low."""


class NoText(LikeError):
    """A text that writes nothing that can be read."""


class NoRow(LikeError):
    """A row that the desk doesn't know."""


class NoNumber(LikeError):
    """A number by which no set stands."""
