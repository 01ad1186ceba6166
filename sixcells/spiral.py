"""Rings about a cell, and the spiral of the rings about the middle of the floor.

A ring has six sides, numbered 0 to 5 in the order in which it is told. Each
side goes on from a corner, which itself is the last cell of the side ahead.
"""

from sixcells.cells import MIDDLE, WAYS, distance, is_count, plus
from sixcells.errors import NoPlace, NoSize


def check_size(size):
    """Refuses what is no size."""
    if not is_count(size):
        raise NoSize("a size is a whole number from 0 on")


def side_cell(size, side, along):
    """The cell that lies along steps behind a side's corner, on the ring about the middle."""
    corner = plus(MIDDLE, WAYS[(side + 5) % 6], size)
    return plus(corner, WAYS[(side + 1) % 6], along)


def ring(middle, size):
    """The ring of a size about the cell middle, a list of cells."""
    check_size(size)
    if size == 0:
        return [middle]
    cells = []
    for side in range(6):
        cells.extend([plus(middle, side_cell(size, side, along)) for along in range(1, size + 1)])
    return cells


def last_place(size):
    """The last place of the ring of a size."""
    return 3 * size * (size + 1)


def size_at(place):
    """The size of the ring on which a place lies."""
    # Halved, since going ring by ring would take too long for a place of
    # many figures.
    least = 0
    most = place
    while least < most:
        half = (least + most) // 2
        if last_place(half) < place:
            least = half + 1
        else:
            most = half
    return least


def cell_at(place):
    """The cell at a place of the spiral."""
    if not is_count(place):
        raise NoPlace("a place is a whole number from 0 on")
    size = size_at(place)
    if size == 0:
        return MIDDLE
    steps = place - last_place(size - 1)
    return side_cell(size, steps // size, steps % size)


def place_of(cell):
    """The place of a cell on the spiral."""
    size = distance(MIDDLE, cell)
    for side in range(6):
        along = distance(side_cell(size, side, 0), cell)
        if 1 <= along <= size and side_cell(size, side, along) == cell:
            return last_place(size - 1) + side * size + along
    # Only the middle lies on no side of its ring.
    return 0
