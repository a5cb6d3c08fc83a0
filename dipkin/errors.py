"""The refusals: each stands straight beneath DipError, none beneath another."""


class DipError(ValueError):
    """Beneath this stands every refusal."""


class Unlike(DipError):
    """Things have not as many numbers as one another."""


class Empty(DipError):
    """There is no number where one is needed."""


class TooMany(DipError):
    """There are more than are taken, or a count that is none."""


class NoTree(DipError):
    """A tuple is the tree of no row."""


class NoTelling(DipError):
    """What is handed in tells no tree in short."""


class NoPlace(DipError):
    """A place, or a stretch, is not there."""


class NoNumber(DipError):
    """Nothing stands at this number."""


class NoPast(DipError):
    """There is nothing left to be taken back."""


class NoText(DipError):
    """A text writes no row, or no tree."""


class NoLine(DipError):
    """A line is none that a desk knows."""
