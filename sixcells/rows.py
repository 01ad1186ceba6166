"""Straight rows of cells, and the points between two cells."""

from sixcells.cells import MIDDLE, distance, is_count, plus
from sixcells.errors import NoPoint


def near_numbers(part, whole):
    """The one or two whole numbers, rising, that are at most a half away from part of whole parts."""
    least = -((whole - 2 * part) // (2 * whole))
    most = (2 * part + whole) // (2 * whole)
    return list(range(least, most + 1))


def nearest(one, other, at):
    """The sorted list of the cells nearest to point at between two cells."""
    far = distance(one, other)
    if not is_count(at) or at > far:
        raise NoPoint("a point is a whole number from 0 to the distance of the two cells")
    if far == 0:
        return [one]
    # Reckoned from one and in parts of a step, so that all numbers stay whole.
    point = plus(MIDDLE, plus(other, one, -1), at)
    cells = []
    for x in near_numbers(point[0], far):
        for y in near_numbers(point[1], far):
            # Each number alone may be near while their sum is not.
            if 2 * distance((far * x, far * y), point) <= far:
                cells.append(plus(one, (x, y)))
    return cells


def row(one, other):
    """The straight row from one cell to the other, a list of cells."""
    return [nearest(one, other, at)[0] for at in range(distance(one, other) + 1)]
