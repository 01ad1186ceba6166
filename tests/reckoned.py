"""What the document's own words say of points, rings, the spiral and sight, reckoned without the program."""

import itertools

STEPS = [(1, 0), (0, 1), (-1, 1), (-1, 0), (0, -1), (1, -1)]


def steps_between(one, other):
    """Point 5: the distance of two cells."""
    a, b = one[0] - other[0], one[1] - other[1]
    return max(abs(a), abs(b), abs(a + b))


def is_nearest(one, other, point, cell):
    """Point 10, for d from 1 on: whether a cell is nearest to a point."""
    (a, b), (p, q), (x, y) = one, other, cell
    d = steps_between(one, other)
    there = (d * a + point * (p - a), d * b + point * (q - b))
    return 2 * steps_between((d * x, d * y), there) <= d


def nearest_cells(one, other, point):
    """Point 10: the sorted nearest cells, out of all cells near the point."""
    d = steps_between(one, other)
    if d == 0:
        return [one]
    x = one[0] + point * (other[0] - one[0]) // d
    y = one[1] + point * (other[1] - one[1]) // d
    window = [(x + i, y + j) for i in range(-2, 4) for j in range(-2, 4)]
    return [cell for cell in window if is_nearest(one, other, point, cell)]


def free_rows(walls, one, other):
    """Point 15: all free rows, out of every choice of nearest cells."""
    d = steps_between(one, other)
    choices = [nearest_cells(one, other, point) for point in range(d + 1)]
    rows = [list(choice) for choice in itertools.product(*choices)]
    return [cells for cells in rows if not any(cell in walls for cell in cells[1:-1])]


def barred_point(walls, one, other):
    """Point 16: the first point from 1 to d - 1 all of whose nearest cells are walls, or None."""
    for point in range(1, steps_between(one, other)):
        if all(cell in walls for cell in nearest_cells(one, other, point)):
            return point
    return None


def ring_cells(middle, size):
    """Point 12: the ring as it is told, step by step."""
    if size == 0:
        return [middle]
    cell = middle
    for way in [0] * size + [4] * (size - 1):
        cell = (cell[0] + STEPS[way][0], cell[1] + STEPS[way][1])
    cells = [cell]
    for way in [1] * (size - 1) + [2] * size + [3] * size + [4] * size + [5] * size + [0] * size:
        cell = (cell[0] + STEPS[way][0], cell[1] + STEPS[way][1])
        cells.append(cell)
    return cells


def spiral_cells(size):
    """Point 13: the cells of the spiral, up to the ring of a size."""
    return [cell for out in range(size + 1) for cell in ring_cells((0, 0), out)]
