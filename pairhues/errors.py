"""The refusals of Pairhues."""


class PairError(ValueError):
    """Any refusal."""


class BadCount(PairError):
    """No number of ends that a side can have."""


class BadSide(PairError):
    """None of the two sides."""


class BadEnd(PairError):
    """None of the ends of a side."""


class TooMany(PairError):
    """As many pairs as there can be at a time are there already."""


class NoPair(PairError):
    """The number of no pair that is there."""


class BadHue(PairError):
    """None of the hues, or one hue where two are asked for."""


class NotFree(PairError):
    """A hue that is not free at an end."""


class BadLine(PairError):
    """The text of no deed."""
