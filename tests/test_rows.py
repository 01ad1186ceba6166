"""Points 1, 2, 10 and 11, and the interface: sixcells/rows.py."""

import inspect
import unittest

from examples import CELLS, FAR_CELLS, HUGE, NEAR_CELLS, NOT_WHOLE
from reckoned import is_nearest, nearest_cells, spiral_cells, steps_between
from sixcells.cells import is_cell
from sixcells.errors import FloorError, NoPoint
from sixcells.rows import nearest, row

# Two cells far apart, in each direction and between the directions.
FAR_PAIRS = [((0, 0), cell) for cell in FAR_CELLS] + list(zip(FAR_CELLS, FAR_CELLS[1:]))


def some_points(d):
    """Points all along a way that is too long to try each."""
    points = [0, 1, 2, d // 3, d // 2 - 1, d // 2, d // 2 + 1, 2 * d // 3, d - 2, d - 1, d]
    return [point for point in points if 0 <= point <= d]


class Interface(unittest.TestCase):
    def test_arguments(self):
        self.assertEqual(str(inspect.signature(nearest)), "(one, other, at)")
        self.assertEqual(str(inspect.signature(row)), "(one, other)")

    def test_arguments_by_name(self):
        self.assertEqual(nearest(one=(0, 0), other=(2, 0), at=1), [(1, 0)])
        self.assertEqual(row(one=(0, 0), other=(2, 0)), [(0, 0), (1, 0), (2, 0)])


class Nearest(unittest.TestCase):
    def test_written_out(self):
        self.assertEqual(nearest((0, 0), (1, 1), 0), [(0, 0)])
        self.assertEqual(nearest((0, 0), (1, 1), 1), [(0, 1), (1, 0)])
        self.assertEqual(nearest((0, 0), (1, 1), 2), [(1, 1)])
        self.assertEqual(nearest((0, 0), (2, -1), 1), [(1, -1), (1, 0)])
        self.assertEqual(nearest((0, 0), (-1, 2), 1), [(-1, 1), (0, 1)])
        self.assertEqual(nearest((0, 0), (3, -1), 1), [(1, 0)])
        self.assertEqual(nearest((0, 0), (3, -1), 2), [(2, -1)])
        self.assertEqual(nearest((5, 5), (9, 7), 1), [(6, 5)])
        self.assertEqual(nearest((5, 5), (9, 7), 3), [(7, 6)])

    def test_every_point_by_the_documents_reckoning(self):
        for one in [(0, 0), (-3, 7)]:
            for a, b in spiral_cells(9):
                other = (one[0] + a, one[1] + b)
                for point in range(steps_between(one, other) + 1):
                    self.assertEqual(nearest(one, other, point), nearest_cells(one, other, point), (other, point))

    def test_no_cell_anywhere_near_is_left_out(self):
        field = [(a, b) for a in range(-7, 8) for b in range(-7, 8)]
        for other in spiral_cells(4)[1:]:
            for point in range(steps_between((0, 0), other) + 1):
                asked = [cell for cell in field if is_nearest((0, 0), other, point, cell)]
                self.assertEqual(nearest((0, 0), other, point), asked, (other, point))

    def test_one_or_two_and_two_just_at_the_half(self):
        for other in spiral_cells(12)[1:]:
            d = steps_between((0, 0), other)
            for point in range(d + 1):
                cells = nearest((0, 0), other, point)
                there = (point * other[0], point * other[1])
                half = [2 * steps_between((d * x, d * y), there) == d for x, y in cells]
                self.assertIn((len(cells), half), [(1, [False]), (2, [True, True])], (other, point))

    def test_the_same_from_the_other_end(self):
        for one in [(0, 0), (4, -9)]:
            for other in spiral_cells(8):
                d = steps_between(one, other)
                for point in range(d + 1):
                    self.assertEqual(nearest(one, other, point), nearest(other, one, d - point))

    def test_the_ends(self):
        for one in [(0, 0), (2, -5), (HUGE, 3)]:
            for other in CELLS:
                self.assertEqual(nearest(one, other, 0), [one])
                self.assertEqual(nearest(one, other, steps_between(one, other)), [other])

    def test_equal_cells(self):
        for cell in CELLS:
            self.assertEqual(nearest(cell, cell, 0), [cell])

    def test_many_figures_by_the_documents_reckoning(self):
        for one, other in FAR_PAIRS:
            d = steps_between(one, other)
            for point in some_points(d):
                cells = nearest(one, other, point)
                self.assertEqual(cells, nearest_cells(one, other, point))
                self.assertEqual(cells, nearest(other, one, d - point))
                self.assertIn(len(cells), (1, 2))

    def test_many_figures_written_out(self):
        self.assertEqual(nearest((0, 0), (HUGE, 0), HUGE - 1), [(HUGE - 1, 0)])
        self.assertEqual(nearest((0, 0), (-HUGE, HUGE), 5), [(-5, 5)])
        half = HUGE // 2
        self.assertEqual(nearest((0, 0), (HUGE, HUGE), HUGE), [(half, half + 1), (half + 1, half)])
        self.assertEqual(nearest((0, 0), (2 * HUGE, -HUGE), HUGE), [(HUGE, -half - 1), (HUGE, -half)])
        # Just off the half, there is one nearest cell alone.
        self.assertEqual(nearest((0, 0), (2 * HUGE, 1 - HUGE), HUGE), [(HUGE, -half)])
        self.assertEqual(nearest((0, 0), (2 * HUGE + 1, -HUGE), HUGE), [(HUGE, -half)])

    def test_sorted_cells_in_a_list_of_the_askers_own(self):
        for other in spiral_cells(5):
            for point in range(steps_between((0, 0), other) + 1):
                cells = nearest((0, 0), other, point)
                self.assertIs(type(cells), list)
                self.assertEqual(cells, sorted(cells))
                self.assertTrue(all(is_cell(cell) for cell in cells))
                kept = list(cells)
                cells.append("mine")
                self.assertEqual(nearest((0, 0), other, point), kept)


class NoPoints(unittest.TestCase):
    def refused(self, one, other, at):
        with self.assertRaises(NoPoint) as taken:
            nearest(one, other, at)
        self.assertIsInstance(taken.exception, FloorError)

    def test_below_and_above(self):
        for one in [(0, 0), (-2, 6), (HUGE, -HUGE)]:
            for other in NEAR_CELLS[::5] + FAR_CELLS:
                d = steps_between(one, other)
                for at in (-1, -2, -d - 1, d + 1, d + 2, 2 * d + 1, -HUGE, d + HUGE):
                    self.refused(one, other, at)

    def test_between_equal_cells(self):
        for cell in [(0, 0), (3, -1), (HUGE, HUGE)]:
            for at in [-1, 1, 2, HUGE, -HUGE] + NOT_WHOLE:
                self.refused(cell, cell, at)

    def test_things_of_other_kinds(self):
        for at in NOT_WHOLE + [(1, 1), [0], "1", 10 ** 5000, -10 ** 5000]:
            for other in [(1, 0), (3, -1), (HUGE, 0)]:
                if not (isinstance(at, int) and not isinstance(at, bool) and 0 <= at <= steps_between((0, 0), other)):
                    self.refused((0, 0), other, at)


class Rows(unittest.TestCase):
    def test_written_out(self):
        self.assertEqual(row((0, 0), (0, 0)), [(0, 0)])
        self.assertEqual(row((0, 0), (0, 1)), [(0, 0), (0, 1)])
        self.assertEqual(row((0, 0), (1, 1)), [(0, 0), (0, 1), (1, 1)])
        self.assertEqual(row((1, 1), (0, 0)), [(1, 1), (0, 1), (0, 0)])
        self.assertEqual(row((0, 0), (4, -2)), [(0, 0), (1, -1), (2, -1), (3, -2), (4, -2)])
        self.assertEqual(row((5, 5), (5, 1)), [(5, 5), (5, 4), (5, 3), (5, 2), (5, 1)])

    def check(self, one, other):
        cells = row(one, other)
        self.assertIs(type(cells), list)
        self.assertEqual(len(cells), steps_between(one, other) + 1)
        self.assertEqual((cells[0], cells[-1]), (one, other))
        for first, second in zip(cells, cells[1:]):
            self.assertEqual(steps_between(first, second), 1, (one, other))
        for point, cell in enumerate(cells):
            self.assertEqual(cell, min(nearest_cells(one, other, point)), (one, other, point))
        self.assertEqual(row(other, one), cells[::-1])

    def test_every_row_nearby(self):
        for one in [(0, 0), (-3, 7)]:
            for a, b in spiral_cells(8):
                self.check(one, (one[0] + a, one[1] + b))

    def test_long_rows(self):
        for other in [(3000, 0), (1500, 1500), (3000, -1500), (-1234, 2999), (-1001, -1998), (17, -2983)]:
            self.check((0, 0), other)

    def test_rows_far_from_the_middle(self):
        for a, b in FAR_CELLS:
            for x, y in [(0, 0), (1, 1), (7, -3), (-20, 40), (0, -9)]:
                self.check((a, b), (a + x, b + y))

    def test_told_list_is_the_askers_own(self):
        first = row((0, 0), (4, -2))
        kept = list(first)
        first.clear()
        self.assertEqual(row((0, 0), (4, -2)), kept)


if __name__ == "__main__":
    unittest.main()
