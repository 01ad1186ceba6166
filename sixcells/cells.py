"""Cells, the steps from cell to cell, and their distance."""

from sixcells.errors import NoWay

MIDDLE = (0, 0)
WAYS = ((1, 0), (0, 1), (-1, 1), (-1, 0), (0, -1), (1, -1))


def is_whole(thing):
    """Whether a thing is a whole number."""
    # Python counts True and False as ints; here they are none.
    return isinstance(thing, int) and not isinstance(thing, bool)


def is_count(thing):
    """Whether a thing is a whole number from 0 on."""
    return is_whole(thing) and thing >= 0


def is_cell(thing):
    """Whether a thing is a cell."""
    return isinstance(thing, tuple) and len(thing) == 2 and is_whole(thing[0]) and is_whole(thing[1])


def is_way(thing):
    """Whether a thing is the number of a way to step."""
    return is_whole(thing) and 0 <= thing < len(WAYS)


def plus(one, other, times=1):
    """The cell one with times times the cell other added."""
    return (one[0] + times * other[0], one[1] + times * other[1])


def around(cell):
    """The six neighbours of a cell, way by way."""
    return [plus(cell, way) for way in WAYS]


def stepped(cell, ways):
    """The cell that a row of steps leads to."""
    for at, way in enumerate(ways):
        if not is_way(way):
            raise NoWay(at)
        cell = plus(cell, WAYS[way])
    return cell


def distance(one, other):
    """The least number of steps from one cell to the other."""
    gap = plus(one, other, -1)
    return max(abs(gap[0]), abs(gap[1]), abs(gap[0] + gap[1]))
