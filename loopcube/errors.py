"""The refusals: one base under ValueError, the others each straight under it."""


class CordError(ValueError):
    """Any refusal."""


class NoTable(CordError):
    """Tables or sizes that do not fit."""


class NoPlace(CordError):
    """A name, a side, a sign, a way or a place that is not there."""


class NoMove(CordError):
    """A move that cannot be done where it is asked."""


class NoWord(CordError):
    """Strands and letters of which no closing can be made."""


class NoText(CordError):
    """A text that cannot be read."""


class TooMany(CordError):
    """More crossings and rings than are reckoned with."""
