"""The errors of the program."""


class ScreenError(ValueError):
    """The base class of all errors; `at` tells where the fault is."""

    def __init__(self, at):
        ValueError.__init__(self, f"at {at}")
        self.at = at


class OutOfRange(ScreenError):
    """A size of a screen is out of its range."""


class NotADeed(ScreenError):
    """A tuple is not a deed."""


class OtherSize(ScreenError):
    """Two screens do not have the same size."""


class NoStep(ScreenError):
    """A word is not a step of a plan where it stands."""


class NoMove(ScreenError):
    """A tuple is not a move where it stands."""
