"""The refusals of the program."""


class FloorError(ValueError):
    """Any refusal."""


class NoCell(FloorError):
    """A thing in a list of cells that is no cell; at is its place there."""

    def __init__(self, at):
        FloorError.__init__(self, f"the thing at place {at} is no cell")
        self.at = at


class NoWay(FloorError):
    """A thing in a row of steps that is no way; at is its place there."""

    def __init__(self, at):
        FloorError.__init__(self, f"the thing at place {at} is no whole number from 0 to 5")
        self.at = at


class NoPlace(FloorError):
    """A thing that is no place on the spiral."""


class NoSize(FloorError):
    """A thing that is no size."""


class NoPoint(FloorError):
    """A thing that is no point between two cells."""
