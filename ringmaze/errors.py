"""The refusals: one class for each, all under RingError."""


class RingError(ValueError):
    """Any refusal."""


class NoMaze(RingError):
    """What ought to be a maze, or a side, is none."""


class Crossed(RingError):
    """Bows cross; `bows` is the tuple that tells which."""

    def __init__(self, bows):
        RingError.__init__(self, f"bows cross: {bows!r}")
        self.bows = bows


class NoWord(RingError):
    """What ought to be a word, or the bows of one, is none."""


class NoDrawing(RingError):
    """What ought to be the drawing of a maze is none."""


class NoBow(RingError):
    """What ought to be the number of a bow or a round, or a place, is none."""


class NoRound(RingError):
    """There is not just one round, or none can be made."""


class NoCode(RingError):
    """What ought to be a code is none; `at` is the place where it fails."""

    def __init__(self, at):
        RingError.__init__(self, f"no code, at {at}")
        self.at = at


class NoNumber(RingError):
    """What ought to be a number within its bounds is none."""


class NoName(RingError):
    """What ought to be a name, or the name of a kept maze, is none."""


class NoRow(RingError):
    """What ought to be a row for the desk is none."""
