"""Floors with walls, and what is seen on them."""

from sixcells.cells import distance, is_cell
from sixcells.errors import NoCell
from sixcells.rows import nearest
from sixcells.spiral import check_size, ring


def stretched(places):
    """The stretches, tuples (first, last), of a rising list of places."""
    found = []
    for place in places:
        if found and found[-1][1] == place - 1:
            found[-1] = (found[-1][0], place)
        else:
            found.append((place, place))
    return found


class Floor:
    """A floor, some of whose cells are walls."""

    def __init__(self, walls):
        standing = {}
        for at, thing in enumerate(walls):
            if not is_cell(thing):
                raise NoCell(at)
            standing[thing] = True
        self.standing = standing

    def walls(self):
        """The sorted list of the walls, each once."""
        return sorted(self.standing)

    def free_cells(self, one, other, at):
        """The cells nearest to point at between two cells that are no walls."""
        return [cell for cell in nearest(one, other, at) if cell not in self.standing]

    def barred(self, one, other):
        """The first point between two cells that has walls alone, or None where there is none."""
        for at in range(1, distance(one, other)):
            if not self.free_cells(one, other, at):
                return at
        return None

    def sees(self, one, other):
        """Whether other is seen from one."""
        # Whichever nearest cells are taken, they make a row: so each point
        # can be looked at by itself.
        return self.barred(one, other) is None

    def free_row(self, one, other):
        """A free row from one cell to the other, a list of cells, or None where there is none."""
        if not self.sees(one, other):
            return None
        if one == other:
            return [one]
        inner = [self.free_cells(one, other, at)[0] for at in range(1, distance(one, other))]
        return [one] + inner + [other]

    def stretches(self, middle, size):
        """The stretches in sight of the cell middle, up to a size, a list of tuples (first, last)."""
        check_size(size)
        # Ring by ring about middle, the cells come in the order of their places.
        cells = []
        for out in range(size + 1):
            cells.extend(ring(middle, out))
        return stretched([place for place, cell in enumerate(cells) if self.sees(middle, cell)])

    def moved(self, motion):
        """A new floor whose walls are the images of the walls."""
        return Floor([motion.image(wall) for wall in self.walls()])
