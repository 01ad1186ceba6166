"""Points 1, 2, 12 and 13, and the interface: sixcells/spiral.py."""

import inspect
import unittest

from examples import CELLS, FAR_CELLS, HUGE, NOT_WHOLE
from reckoned import ring_cells, spiral_cells, steps_between
from sixcells.cells import is_cell
from sixcells.errors import FloorError, NoPlace, NoSize
from sixcells.spiral import cell_at, place_of, ring

MIDDLES = [(0, 0), (1, 0), (-4, 9), (12, 12), (HUGE, -HUGE)]


def corners(size):
    """The six corners of the ring about (0, 0), with the place of each by point 13."""
    before = 3 * size * (size - 1)
    cells = [(size, 0), (0, size), (-size, size), (-size, 0), (0, -size), (size, -size)]
    return [(cell, before + size * (side + 1)) for side, cell in enumerate(cells)]


class Interface(unittest.TestCase):
    def test_arguments(self):
        self.assertEqual(str(inspect.signature(ring)), "(middle, size)")
        self.assertEqual(str(inspect.signature(cell_at)), "(place)")
        self.assertEqual(str(inspect.signature(place_of)), "(cell)")

    def test_arguments_by_name(self):
        self.assertEqual(ring(middle=(3, 4), size=0), [(3, 4)])
        self.assertEqual(cell_at(place=1), (1, 0))
        self.assertEqual(place_of(cell=(1, 0)), 1)


class Rings(unittest.TestCase):
    def test_written_out(self):
        self.assertEqual(ring((0, 0), 0), [(0, 0)])
        self.assertEqual(ring((0, 0), 1), [(1, 0), (0, 1), (-1, 1), (-1, 0), (0, -1), (1, -1)])
        self.assertEqual(ring((0, 0), 2), [(2, -1), (2, 0), (1, 1), (0, 2), (-1, 2), (-2, 2), (-2, 1), (-2, 0),
                                           (-1, -1), (0, -2), (1, -2), (2, -2)])
        self.assertEqual(ring((5, -3), 1), [(6, -3), (5, -2), (4, -2), (4, -3), (5, -4), (6, -4)])

    def test_in_the_told_order(self):
        for middle in MIDDLES:
            for size in range(12):
                self.assertEqual(ring(middle, size), ring_cells(middle, size), (middle, size))

    def test_all_cells_of_that_distance(self):
        for size in range(7):
            field = [(a, b) for a in range(-9, 10) for b in range(-9, 10)]
            asked = [cell for cell in field if steps_between((0, 0), cell) == size]
            self.assertEqual(sorted(ring((0, 0), size)), asked)

    def test_six_times_the_size(self):
        for middle in MIDDLES:
            for size in (1, 2, 3, 50, 499, 500):
                cells = ring(middle, size)
                self.assertIs(type(cells), list)
                self.assertEqual(len(cells), 6 * size)
                self.assertEqual(len(set(cells)), 6 * size)
                self.assertEqual({steps_between(middle, cell) for cell in cells}, {size})
                self.assertTrue(all(is_cell(cell) for cell in cells))

    def test_largest_in_the_told_order(self):
        self.assertEqual(ring((7, -8), 500), ring_cells((7, -8), 500))

    def test_no_size(self):
        for middle in MIDDLES:
            for size in NOT_WHOLE + [-1, -2, -500, -HUGE, -10 ** 5000]:
                with self.assertRaises(NoSize) as taken:
                    ring(middle, size)
                self.assertIsInstance(taken.exception, FloorError)

    def test_told_list_is_the_askers_own(self):
        for size in (0, 1, 4):
            first = ring((2, 2), size)
            kept = list(first)
            first.reverse()
            first.append("mine")
            self.assertEqual(ring((2, 2), size), kept)


class Spiral(unittest.TestCase):
    def test_written_out(self):
        first = [(0, 0), (1, 0), (0, 1), (-1, 1), (-1, 0), (0, -1), (1, -1), (2, -1), (2, 0), (1, 1)]
        self.assertEqual([cell_at(place) for place in range(10)], first)
        self.assertEqual([place_of(cell) for cell in first], list(range(10)))

    def test_first_places_back_and_forth(self):
        for place, cell in enumerate(spiral_cells(25)):
            self.assertEqual(cell_at(place), cell)
            self.assertEqual(place_of(cell), place)

    def test_neighbouring_places_are_neighbours(self):
        for start in (0, HUGE, 3 * HUGE * (HUGE - 1) - 50, 3 * HUGE * (HUGE + 1) - 50):
            for place in range(start, start + 100):
                self.assertEqual(steps_between(cell_at(place), cell_at(place + 1)), 1, place)

    def test_first_and_last_place_of_each_ring(self):
        for size in list(range(1, 200)) + [10 ** 9, 2 ** 64, 2 ** 64 - 1, HUGE, HUGE + 1]:
            first, last = 3 * size * (size - 1) + 1, 3 * size * (size + 1)
            self.assertEqual(cell_at(first), (size, 1 - size))
            self.assertEqual(place_of((size, 1 - size)), first)
            self.assertEqual(cell_at(last), (size, -size))
            self.assertEqual(place_of((size, -size)), last)

    def test_corners_and_the_cells_beside_them(self):
        for size in list(range(1, 60)) + [10 ** 9, HUGE]:
            for cell, place in corners(size):
                self.assertEqual(place_of(cell), place)
                self.assertEqual(cell_at(place), cell)
                for beside in (place - 1, place + 1):
                    self.assertEqual(steps_between(cell, cell_at(beside)), 1)
                    self.assertEqual(place_of(cell_at(beside)), beside)

    def test_cells_of_many_figures(self):
        for a, b in CELLS:
            for x, y in [(0, 0), (1, 0), (0, -1), (-17, 5), (HUGE // 3, HUGE // 7)]:
                cell = (a + x, b + y)
                size = steps_between((0, 0), cell)
                place = place_of(cell)
                self.assertIs(type(place), int)
                self.assertEqual(cell_at(place), cell)
                if size:
                    self.assertTrue(3 * size * (size - 1) < place <= 3 * size * (size + 1))

    def test_places_of_many_figures(self):
        for start in (HUGE, 10 ** 299, 10 ** 150, HUGE * HUGE, 10 ** 20):
            for place in range(start - 3, start + 4):
                cell = cell_at(place)
                self.assertTrue(is_cell(cell))
                self.assertEqual(place_of(cell), place)

    def test_sides_of_a_ring_of_many_figures(self):
        # A third of the way along each side, by the steps that point 12 tells.
        third = HUGE // 3
        sides = [((HUGE, -HUGE), (0, 1)), ((HUGE, 0), (-1, 1)), ((0, HUGE), (-1, 0)),
                 ((-HUGE, HUGE), (0, -1)), ((-HUGE, 0), (1, -1)), ((0, -HUGE), (1, 0))]
        for side, ((a, b), (x, y)) in enumerate(sides):
            cell = (a + third * x, b + third * y)
            place = 3 * HUGE * (HUGE - 1) + side * HUGE + third
            self.assertEqual(place_of(cell), place)
            self.assertEqual(cell_at(place), cell)

    def test_no_place(self):
        for place in NOT_WHOLE + [-1, -2, -7, -HUGE, -10 ** 5000]:
            with self.assertRaises(NoPlace) as taken:
                cell_at(place)
            self.assertIsInstance(taken.exception, FloorError)


if __name__ == "__main__":
    unittest.main()
