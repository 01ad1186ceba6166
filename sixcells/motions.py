"""Motions, which carry each cell of the floor to a cell.

Every motion is told by its form (flip, times, to): a mirror where flip is
True, then a turn done times times, then a shift by to.
"""

from sixcells.cells import MIDDLE, plus

PLAIN = (False, 0, (0, 0))


def turned(cell, times):
    """The cell, turned times times; times is from 0 to 5."""
    for turn in range(times):
        cell = (-cell[1], cell[0] + cell[1])
    return cell


def carried(cell, form):
    """The image of a cell under a motion of this form."""
    if form[0]:
        cell = (cell[1], cell[0])
    return plus(turned(cell, form[1]), form[2])


def joined(first, second):
    """The form of a motion of the first form with one of the second form done behind it."""
    times = first[1]
    if second[0]:
        # Drawn past a mirror, a turn goes the other way about.
        times = -times
    return (first[0] != second[0], (times + second[1]) % 6, carried(first[2], second))


class Motion:
    """The plain motion; the other motions differ from it by their form alone."""

    def form(self):
        """The motion's one form, a tuple (flip, times, to)."""
        return PLAIN

    def image(self, cell):
        """The cell to which the motion carries a cell."""
        return carried(cell, self.form())

    def back(self):
        """A motion that carries each image to the cell whose image it is."""
        form = self.form()
        undone = [Shift(plus(MIDDLE, form[2], -1)), Turn(-form[1])]
        if form[0]:
            undone.append(Mirror())
        return Chain(undone)


class Turn(Motion):
    """A turn about the middle of the floor, done any whole number of times."""

    def __init__(self, times=1):
        self.times = times

    def form(self):
        """The motion's one form, a tuple (flip, times, to)."""
        return (False, self.times % 6, MIDDLE)


class Mirror(Motion):
    """The mirror that swaps the two numbers of a cell."""

    def form(self):
        """The motion's one form, a tuple (flip, times, to)."""
        return (True, 0, MIDDLE)


class Shift(Motion):
    """A shift by a cell's two numbers."""

    def __init__(self, by):
        self.by = by

    def form(self):
        """The motion's one form, a tuple (flip, times, to)."""
        return (False, 0, self.by)


class Chain(Motion):
    """A list of motions, done one behind the other, the first one first."""

    def __init__(self, motions):
        # Only the joined form is kept: the list may change later without
        # harm, and a chain in many chains is not gone through again.
        whole = PLAIN
        for motion in motions:
            whole = joined(whole, motion.form())
        self.whole = whole

    def form(self):
        """The motion's one form, a tuple (flip, times, to)."""
        return self.whole
