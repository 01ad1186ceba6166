"""Points 1 to 5, and the interface: sixcells/cells.py."""

import inspect
import unittest

from examples import CELLS, FAR_CELLS, HUGE, NEAR_CELLS, NOT_WHOLE
from sixcells.cells import around, distance, is_cell, plus, stepped
from sixcells.errors import FloorError, NoWay

STEPS = [(1, 0), (0, 1), (-1, 1), (-1, 0), (0, -1), (1, -1)]


def walked_distances(start, farthest):
    """Counts steps outwards from a cell, ring by ring, without distance()."""
    counts = {start: 0}
    edge = [start]
    for count in range(1, farthest + 1):
        reached = []
        for a, b in edge:
            for x, y in STEPS:
                cell = (a + x, b + y)
                if cell not in counts:
                    counts[cell] = count
                    reached.append(cell)
        edge = reached
    return counts


class Interface(unittest.TestCase):
    def test_arguments_and_defaults(self):
        asked = [(is_cell, "(thing)"), (plus, "(one, other, times=1)"), (around, "(cell)"),
                 (stepped, "(cell, ways)"), (distance, "(one, other)")]
        for function, arguments in asked:
            self.assertEqual(str(inspect.signature(function)), arguments, function)

    def test_arguments_by_name(self):
        self.assertIs(is_cell(thing=(0, 0)), True)
        self.assertEqual(plus(one=(1, 2), other=(3, 4), times=2), (7, 10))
        self.assertEqual(around(cell=(0, 0)), STEPS)
        self.assertEqual(stepped(cell=(1, 1), ways=[0]), (2, 1))
        self.assertEqual(distance(one=(0, 0), other=(1, 1)), 2)


class IsCell(unittest.TestCase):
    def test_cells(self):
        for cell in CELLS + [(0, 0), (-1, 5), (10 ** 400, -10 ** 400)]:
            self.assertIs(is_cell(cell), True, cell)

    def test_truths_in_a_cell(self):
        for thing in [(True, 0), (0, True), (False, 0), (0, False), (True, False), (True, True)]:
            self.assertIs(is_cell(thing), False, thing)

    def test_tuples_of_another_length(self):
        for thing in [(), (1,), (0,), (1, 2, 3), (0, 0, 0), ((0, 0),), ((0, 0), (0, 0))]:
            self.assertIs(is_cell(thing), False, thing)

    def test_tuples_of_other_things(self):
        for thing in NOT_WHOLE:
            self.assertIs(is_cell((thing, 1)), False, thing)
            self.assertIs(is_cell((1, thing)), False, thing)

    def test_things_of_other_kinds(self):
        others = [[0, 0], [1, 2], "12", "ab", "(0, 0)", b"12", {1: 2, 3: 4}, {1, 2}, range(2), 0, 1, -7, HUGE]
        for thing in others + NOT_WHOLE:
            if thing != (0, 0):
                self.assertIs(is_cell(thing), False, thing)


class Plus(unittest.TestCase):
    def test_without_times(self):
        self.assertEqual(plus((1, 2), (10, 20)), (11, 22))
        self.assertEqual(plus((-3, 5), (3, -5)), (0, 0))

    def test_with_times(self):
        self.assertEqual(plus((1, 2), (10, 20), 1), (11, 22))
        self.assertEqual(plus((1, 2), (10, 20), 3), (31, 62))
        self.assertEqual(plus((1, 2), (10, -20), 3), (31, -58))

    def test_times_zero_and_below(self):
        self.assertEqual(plus((1, 2), (10, 20), 0), (1, 2))
        self.assertEqual(plus((1, 2), (10, 20), -1), (-9, -18))
        self.assertEqual(plus((1, 2), (10, 20), -4), (-39, -78))

    def test_many_figures(self):
        self.assertEqual(plus((HUGE, 1), (HUGE, -HUGE), 2), (3 * HUGE, 1 - 2 * HUGE))
        self.assertEqual(plus((0, 1), (1, -1), HUGE), (HUGE, 1 - HUGE))

    def test_a_cell_comes_of_it(self):
        for cell in CELLS:
            self.assertTrue(is_cell(plus(cell, (1, -2), -3)))


class Around(unittest.TestCase):
    def test_six_ways_in_order(self):
        self.assertEqual(around((0, 0)), [(1, 0), (0, 1), (-1, 1), (-1, 0), (0, -1), (1, -1)])
        self.assertEqual(around((5, -3)), [(6, -3), (5, -2), (4, -2), (4, -3), (5, -4), (6, -4)])

    def test_everywhere(self):
        for a, b in CELLS:
            self.assertEqual(around((a, b)), [(a + x, b + y) for x, y in STEPS])

    def test_told_list_is_the_askers_own(self):
        first = around((0, 0))
        self.assertIs(type(first), list)
        second = around((0, 0))
        self.assertIsNot(first, second)
        first.reverse()
        first.append("mine")
        self.assertEqual(second, STEPS)
        self.assertEqual(around((0, 0)), STEPS)
        self.assertEqual(stepped((0, 0), [0]), (1, 0))


class Stepped(unittest.TestCase):
    def refused_at(self, ways):
        with self.assertRaises(NoWay) as taken:
            stepped((0, 0), ways)
        self.assertIsInstance(taken.exception, FloorError)
        self.assertIs(type(taken.exception.at), int)
        return taken.exception.at

    def test_no_steps(self):
        for cell in CELLS:
            self.assertEqual(stepped(cell, []), cell)

    def test_one_step(self):
        for way, (x, y) in enumerate(STEPS):
            for a, b in CELLS:
                self.assertEqual(stepped((a, b), [way]), (a + x, b + y))

    def test_many_steps(self):
        self.assertEqual(stepped((0, 0), [0, 1, 2, 3, 4, 5]), (0, 0))
        self.assertEqual(stepped((7, -2), [0, 0, 1]), (9, -1))
        self.assertEqual(stepped((7, -2), [2, 2, 4]), (5, -1))
        self.assertEqual(stepped((0, 0), [5] * 1000), (1000, -1000))
        self.assertEqual(stepped((HUGE, -HUGE), [3, 1]), (HUGE - 1, 1 - HUGE))

    def test_bad_things_at_every_place(self):
        for bad in NOT_WHOLE + [-1, 6, 7, -6, HUGE, -HUGE]:
            self.assertEqual(self.refused_at([bad]), 0, bad)
            self.assertEqual(self.refused_at([bad, 0, 5]), 0, bad)
            self.assertEqual(self.refused_at([0, 5, bad, 1]), 2, bad)
            self.assertEqual(self.refused_at([1, 2, 3, bad]), 3, bad)

    def test_the_first_bad_thing_counts(self):
        self.assertEqual(self.refused_at([0, 6, 1, -1]), 1)
        self.assertEqual(self.refused_at([None, 6]), 0)
        self.assertEqual(self.refused_at([0, True, 6, None]), 1)
        self.assertEqual(self.refused_at([0, 6, True]), 1)
        self.assertEqual(self.refused_at([2, 2, "x", "x"]), 2)

    def test_at_the_end_of_a_long_row(self):
        self.assertEqual(self.refused_at([4] * 999 + [6]), 999)

    def test_list_handed_in_stays(self):
        ways = [0, 1, 5, 3]
        stepped((0, 0), ways)
        self.assertEqual(ways, [0, 1, 5, 3])
        bad = [0, 1, "x", 3, None]
        self.refused_at(bad)
        self.assertEqual(bad, [0, 1, "x", 3, None])


class Distance(unittest.TestCase):
    def test_least_number_of_steps(self):
        for start in [(0, 0), (2, -5)]:
            for cell, count in walked_distances(start, 9).items():
                self.assertEqual(distance(start, cell), count, (start, cell))
                self.assertEqual(distance(cell, start), count, (cell, start))

    def test_equal_cells(self):
        for cell in CELLS:
            self.assertEqual(distance(cell, cell), 0)

    def test_neighbours(self):
        for a, b in CELLS:
            for x, y in STEPS:
                self.assertEqual(distance((a, b), (a + x, b + y)), 1)

    def test_six_directions(self):
        for a, b in [(0, 0), (-8, 3)]:
            for x, y in STEPS:
                for far in (2, 7, 1000, HUGE):
                    there = (a + far * x, b + far * y)
                    self.assertEqual(distance((a, b), there), far)
                    self.assertEqual(distance(there, (a, b)), far)

    def test_between_the_directions(self):
        self.assertEqual(distance((0, 0), (2, 3)), 5)
        self.assertEqual(distance((0, 0), (-2, -3)), 5)
        self.assertEqual(distance((0, 0), (2, -5)), 5)
        self.assertEqual(distance((0, 0), (5, -2)), 5)
        self.assertEqual(distance((1, 1), (-1, 5)), 4)

    def test_many_figures(self):
        self.assertEqual(distance((0, 0), (HUGE, HUGE)), 2 * HUGE)
        self.assertEqual(distance((HUGE, -HUGE), (-HUGE, HUGE + 1)), 2 * HUGE + 1)
        self.assertEqual(distance((HUGE, 0), (HUGE + 1, 0)), 1)

    def test_both_ways_about(self):
        for one in FAR_CELLS:
            for other in CELLS:
                self.assertEqual(distance(one, other), distance(other, one))

    def test_kind(self):
        for cell in NEAR_CELLS:
            self.assertIs(type(distance((0, 0), cell)), int)


if __name__ == "__main__":
    unittest.main()
