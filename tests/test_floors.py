"""Points 1, 2 and 14 to 18, and the interface: sixcells/floors.py."""

import inspect
import itertools
import random
import unittest

from examples import CELLS, FAR_CELLS, HUGE, NEAR_CELLS, NOT_WHOLE
from plans import PLANS, done, made
from reckoned import STEPS, barred_point, free_rows, nearest_cells, ring_cells, spiral_cells, steps_between
from sixcells.cells import is_cell
from sixcells.errors import FloorError, NoCell, NoSize
from sixcells.floors import Floor
from sixcells.motions import Chain, Mirror, Shift, Turn
from sixcells.spiral import cell_at

NO_CELLS = [thing for thing in NOT_WHOLE if thing != (0, 0)]
NO_CELLS += [[0, 0], (0, 0, 0), (True, 0), (0, False), (1.0, 2), (1, "2"), ((0, 0), (0, 0)), "ab", 7, {0: 0, 1: 1}]


def drawn_floors(count, reach, seed):
    """Lists of walls drawn from a fixed seed, near (0, 0), some of them thin and some of them thick."""
    draw = random.Random(seed)
    field = spiral_cells(reach)
    return [draw.sample(field, draw.randrange(len(field) * 3 // 4)) for _ in range(count)]


def stretches_by_walk(walls, middle, size):
    """Point 17, by a walk through all cells up to the size, one place behind the other."""
    places = []
    for place, (x, y) in enumerate(spiral_cells(size)):
        if barred_point(walls, middle, (middle[0] + x, middle[1] + y)) is None:
            places.append(place)
    found = []
    for first in places:
        if first - 1 not in places:
            last = first
            while last + 1 in places:
                last += 1
            found.append((first, last))
    return found


class Interface(unittest.TestCase):
    def test_arguments(self):
        asked = [(Floor, "(walls)"), (Floor.walls, "(self)"), (Floor.free_row, "(self, one, other)"),
                 (Floor.sees, "(self, one, other)"), (Floor.barred, "(self, one, other)"),
                 (Floor.stretches, "(self, middle, size)"), (Floor.moved, "(self, motion)")]
        for function, arguments in asked:
            self.assertEqual(str(inspect.signature(function)), arguments, function)

    def test_arguments_by_name(self):
        floor = Floor(walls=[(1, 0)])
        self.assertIsNone(floor.free_row(one=(0, 0), other=(2, 0)))
        self.assertIs(floor.sees(one=(0, 0), other=(2, 0)), False)
        self.assertEqual(floor.barred(one=(0, 0), other=(2, 0)), 1)
        self.assertEqual(floor.stretches(middle=(0, 0), size=1), [(0, 6)])
        self.assertEqual(floor.moved(motion=Turn()).walls(), [(0, 1)])


class Walls(unittest.TestCase):
    def test_sorted_and_each_once(self):
        self.assertEqual(Floor([]).walls(), [])
        self.assertEqual(Floor([(2, 0), (0, 5), (2, -1), (0, 5), (-1, 9)]).walls(), [(-1, 9), (0, 5), (2, -1), (2, 0)])
        self.assertEqual(Floor([(3, 3)] * 1000).walls(), [(3, 3)])
        self.assertEqual(Floor(CELLS[::-1] + CELLS).walls(), sorted(CELLS))

    def test_a_thousand(self):
        cells = spiral_cells(20)[:1000]
        random.Random(3).shuffle(cells)
        self.assertEqual(Floor(cells).walls(), sorted(cells))

    def test_list_handed_in_stays(self):
        handed = [(2, 0), (0, 5), (2, -1), (0, 5)]
        floor = Floor(handed)
        floor.walls()
        floor.stretches((0, 0), 3)
        floor.moved(Mirror())
        self.assertEqual(handed, [(2, 0), (0, 5), (2, -1), (0, 5)])

    def test_later_changes_to_the_list_change_nothing(self):
        handed = [(1, 0), (5, 5)]
        floor = Floor(handed)
        handed.append((0, 1))
        handed[0] = (9, 9)
        self.assertEqual(floor.walls(), [(1, 0), (5, 5)])
        handed.clear()
        self.assertEqual(floor.walls(), [(1, 0), (5, 5)])
        self.assertEqual(floor.barred((0, 0), (2, 0)), 1)
        self.assertIs(floor.sees((0, 0), (0, 2)), True)

    def test_told_lists_are_the_askers_own(self):
        floor = Floor([(1, 0), (5, 5)])
        for told in (floor.walls, lambda: floor.free_row((0, 0), (0, 4)), lambda: floor.stretches((0, 0), 3)):
            first = told()
            self.assertIs(type(first), list)
            kept = list(first)
            first.reverse()
            first.append((0, 1))
            self.assertEqual(told(), kept)
        self.assertIs(floor.sees((0, 0), (0, 2)), True)
        self.assertIs(floor.sees((0, 0), (2, 0)), False)


class NoCells(unittest.TestCase):
    def refused_at(self, walls):
        with self.assertRaises(NoCell) as taken:
            Floor(walls)
        self.assertIsInstance(taken.exception, FloorError)
        self.assertIs(type(taken.exception.at), int)
        return taken.exception.at

    def test_at_every_place(self):
        for bad in NO_CELLS:
            self.assertEqual(self.refused_at([bad]), 0, bad)
            self.assertEqual(self.refused_at([bad, (0, 0)]), 0, bad)
            self.assertEqual(self.refused_at([(0, 0), (1, 1), bad, (2, 2)]), 2, bad)
            self.assertEqual(self.refused_at([(0, 0), (0, 0), (0, 0), bad]), 3, bad)

    def test_the_first_one_counts(self):
        self.assertEqual(self.refused_at([(0, 0), None, (1, 1), "x"]), 1)
        self.assertEqual(self.refused_at([(0, 0), (3, 4), [1, 1], None, [1, 1]]), 2)
        self.assertEqual(self.refused_at([(True, 0), None]), 0)

    def test_an_equal_cell_ahead_hides_nothing(self):
        # (True, 0) equals (1, 0) for Python, and is no cell all the same.
        self.assertEqual(self.refused_at([(1, 0), (True, 0)]), 1)
        self.assertEqual(self.refused_at([(0, 2), (0.0, 2)]), 1)

    def test_at_the_end_of_a_long_list(self):
        self.assertEqual(self.refused_at([(4, 4)] * 999 + [4]), 999)

    def test_list_handed_in_stays(self):
        handed = [(1, 1), "x", (0, 0)]
        self.refused_at(handed)
        self.assertEqual(handed, [(1, 1), "x", (0, 0)])


class Sight(unittest.TestCase):
    def check(self, walls, one, other):
        floor = Floor(walls)
        rows = free_rows(walls, one, other)
        told = floor.free_row(one, other)
        if rows:
            self.assertIn(told, rows, (walls, one, other))
            self.assertIs(type(told), list)
        else:
            self.assertIsNone(told, (walls, one, other))
        self.assertIs(floor.sees(one, other), bool(rows), (walls, one, other))
        self.assertEqual(floor.barred(one, other), barred_point(walls, one, other), (walls, one, other))

    def test_written_out(self):
        floor = Floor([(0, 1), (2, 0), (3, 0)])
        self.assertEqual(floor.free_row((0, 0), (1, 1)), [(0, 0), (1, 0), (1, 1)])
        self.assertEqual(floor.barred((0, 0), (4, 0)), 2)
        self.assertEqual(floor.barred((4, 0), (0, 0)), 1)
        self.assertIsNone(floor.free_row((0, 0), (4, 0)))
        self.assertIs(floor.sees((0, 0), (4, 0)), False)
        self.assertIsNone(floor.barred((0, 0), (2, 0)))
        self.assertEqual(Floor([(0, 1), (1, 0)]).barred((0, 0), (1, 1)), 1)
        self.assertEqual(Floor([(1, -1), (3, -2)]).free_row((0, 0), (4, -2)),
                         [(0, 0), (1, 0), (2, -1), (3, -1), (4, -2)])

    def test_every_choice_of_walls_on_the_points(self):
        for other in spiral_cells(5):
            d = steps_between((0, 0), other)
            on_the_way = {cell for point in range(d + 1) for cell in nearest_cells((0, 0), other, point)}
            for count in range(len(on_the_way) + 1):
                for walls in itertools.combinations(sorted(on_the_way), count):
                    self.check(list(walls), (0, 0), other)

    def test_every_single_wall_on_a_small_floor(self):
        for wall in spiral_cells(3):
            for one in [(0, 0), (-2, 1)]:
                for other in spiral_cells(3):
                    self.check([wall], one, other)

    def test_every_choice_of_walls_around_a_cell(self):
        for count in range(7):
            for walls in itertools.combinations(STEPS, count):
                for other in ring_cells((0, 0), 2):
                    self.check(list(walls), (0, 0), other)

    def test_drawn_floors(self):
        draw = random.Random(15)
        for walls in drawn_floors(150, 7, 15):
            for _ in range(12):
                self.check(walls, draw.choice(NEAR_CELLS), draw.choice(spiral_cells(9)))

    def test_walls_on_the_two_cells_do_not_matter(self):
        for walls in drawn_floors(40, 5, 16):
            one, other = (-3, 1), (4, -2)
            bare = [cell for cell in walls if cell not in (one, other)]
            asked = Floor(bare).sees(one, other)
            for ends in ([one], [other], [one, other]):
                floor = Floor(bare + ends)
                self.assertIs(floor.sees(one, other), asked)
                self.assertEqual(floor.barred(one, other), Floor(bare).barred(one, other))
                self.check(bare + ends, one, other)

    def test_a_cell_sees_itself_and_its_neighbours(self):
        for a, b in CELLS:
            around = [(a + x, b + y) for x, y in STEPS]
            for walls in ([], [(a, b)], around, around + [(a, b)]):
                floor = Floor(walls)
                self.assertEqual(floor.free_row((a, b), (a, b)), [(a, b)])
                self.assertIs(floor.sees((a, b), (a, b)), True)
                self.assertIsNone(floor.barred((a, b), (a, b)))
                for other in around:
                    self.assertEqual(floor.free_row((a, b), other), [(a, b), other])
                    self.assertIs(floor.sees((a, b), other), True)
                    self.assertIsNone(floor.barred((a, b), other))

    def test_who_is_seen_sees(self):
        for walls in drawn_floors(60, 6, 17):
            floor = Floor(walls)
            for other in spiral_cells(6):
                self.assertIs(floor.sees((1, -2), other), floor.sees(other, (1, -2)))

    def test_free_row_is_a_row(self):
        for walls in drawn_floors(60, 6, 18):
            for other in spiral_cells(7):
                cells = Floor(walls).free_row((0, 0), other)
                if cells is not None:
                    self.assertEqual(len(cells), steps_between((0, 0), other) + 1)
                    self.assertEqual((cells[0], cells[-1]), ((0, 0), other))
                    self.assertFalse([cell for cell in cells[1:-1] if cell in walls])
                    for first, second in zip(cells, cells[1:]):
                        self.assertEqual(steps_between(first, second), 1)

    def test_three_thousand_far(self):
        for other in [(3000, 0), (1500, 1500), (3000, -1500), (-1234, 2999), (17, -2983)]:
            far = steps_between((0, 0), other)
            lines = [nearest_cells((0, 0), other, point) for point in range(far + 1)]
            firsts = [cells[0] for cells in lines[1:-1] if len(cells) == 2][:1000]
            floor = Floor(firsts)
            cells = floor.free_row((0, 0), other)
            self.assertEqual(len(cells), far + 1)
            for cell, choice in zip(cells, lines):
                self.assertIn(cell, [near for near in choice if near not in firsts])
            self.assertIsNone(floor.barred((0, 0), other))
            shut = Floor(lines[far - 1] + lines[far - 5])
            self.assertEqual(shut.barred((0, 0), other), far - 5)
            self.assertEqual(shut.barred(other, (0, 0)), 1)
            self.assertIsNone(shut.free_row((0, 0), other))

    def test_far_from_the_middle(self):
        for a, b in FAR_CELLS:
            walls = [(a + x, b + y) for x, y in [(1, 0), (0, 2), (-1, 2), (2, -2), (-1, -1)]]
            for x, y in spiral_cells(4):
                self.check(walls, (a, b), (a + x, b + y))


class Stretches(unittest.TestCase):
    def test_written_out(self):
        self.assertEqual(Floor([]).stretches((0, 0), 0), [(0, 0)])
        self.assertEqual(Floor([]).stretches((4, -7), 2), [(0, 18)])
        self.assertEqual(Floor([(1, 0)]).stretches((0, 0), 2), [(0, 7), (9, 18)])
        self.assertEqual(Floor(STEPS).stretches((0, 0), 5), [(0, 6)])
        # The last cell of one ring and the first one of the next lie in one stretch.
        self.assertEqual(Floor([(2, 0)]).stretches((1, 0), 2), [(0, 7), (9, 18)])
        self.assertEqual(Floor([(1, -1)]).stretches((0, 0), 2), [(0, 17)])

    def test_against_a_walk_through_all_cells(self):
        for walls in drawn_floors(40, 5, 30):
            for middle in [(0, 0), (2, -3)]:
                for size in range(6):
                    told = Floor(walls).stretches(middle, size)
                    self.assertEqual(told, stretches_by_walk(walls, middle, size), (walls, middle, size))

    def test_places_are_those_of_the_cells_seen(self):
        for walls in drawn_floors(20, 4, 31):
            floor = Floor(walls)
            told = floor.stretches((3, 1), 6)
            places = [place for first, last in told for place in range(first, last + 1)]
            for place in range(3 * 6 * 7 + 1):
                x, y = cell_at(place)
                self.assertIs(place in places, floor.sees((3, 1), (3 + x, 1 + y)))

    def test_form(self):
        for walls in drawn_floors(30, 5, 32):
            told = Floor(walls).stretches((0, 0), 7)
            self.assertIs(type(told), list)
            for stretch in told:
                self.assertIs(type(stretch), tuple)
                self.assertEqual(len(stretch), 2)
                self.assertLessEqual(stretch[0], stretch[1])
            for first, second in zip(told, told[1:]):
                self.assertGreater(second[0], first[1] + 1)
            # The cell itself and its neighbours are always seen.
            self.assertEqual(told[0][0], 0)
            self.assertGreaterEqual(told[0][1], 6)

    def test_largest_size(self):
        self.assertEqual(Floor([]).stretches((HUGE, -HUGE), 30), [(0, 2790)])
        walls = drawn_floors(1, 12, 33)[0][:60]
        self.assertEqual(Floor(walls).stretches((0, 0), 30), stretches_by_walk(walls, (0, 0), 30))

    def test_far_from_the_middle(self):
        walls = drawn_floors(1, 4, 34)[0]
        for a, b in FAR_CELLS:
            far = [(a + x, b + y) for x, y in walls]
            self.assertEqual(Floor(far).stretches((a, b), 5), stretches_by_walk(walls, (0, 0), 5))

    def test_no_size(self):
        for floor in (Floor([]), Floor([(0, 0), (1, 0)])):
            for size in NOT_WHOLE + [-1, -2, -30, -HUGE, -10 ** 5000]:
                with self.assertRaises(NoSize) as taken:
                    floor.stretches((0, 0), size)
                self.assertIsInstance(taken.exception, FloorError)


class Moved(unittest.TestCase):
    def test_written_out(self):
        floor = Floor([(1, 0), (3, -1)])
        self.assertEqual(floor.moved(Turn()).walls(), [(0, 1), (1, 2)])
        self.assertEqual(floor.moved(Mirror()).walls(), [(-1, 3), (0, 1)])
        self.assertEqual(floor.moved(Shift((10, 20))).walls(), [(11, 20), (13, 19)])
        self.assertEqual(floor.moved(Chain([])).walls(), [(1, 0), (3, -1)])
        self.assertEqual(floor.moved(Chain([Shift((1, 0)), Turn()])).walls(), [(0, 2), (1, 3)])

    def test_walls_are_the_images(self):
        for plan in PLANS:
            for walls in ([], NEAR_CELLS[::3], FAR_CELLS):
                moved = Floor(walls).moved(made(plan))
                self.assertIsInstance(moved, Floor)
                self.assertEqual(moved.walls(), sorted(done(plan, wall) for wall in walls), plan)
                self.assertTrue(all(is_cell(wall) for wall in moved.walls()))

    def test_a_new_floor(self):
        floor = Floor([(1, 0), (3, -1)])
        for plan in PLANS:
            moved = floor.moved(made(plan))
            self.assertIsNot(moved, floor)
            self.assertEqual(floor.walls(), [(1, 0), (3, -1)])
            self.assertEqual(floor.barred((0, 0), (2, 0)), 1)

    def test_images_see_images_just_as_cells_see_cells(self):
        floors = drawn_floors(len(PLANS), 4, 40)
        for plan, walls in zip(PLANS, floors):
            floor, motion = Floor(walls), made(plan)
            moved = floor.moved(motion)
            for other in spiral_cells(5):
                one_image, other_image = done(plan, (1, -1)), done(plan, other)
                self.assertIs(moved.sees(one_image, other_image), floor.sees((1, -1), other), plan)
                self.assertEqual(moved.barred(one_image, other_image), floor.barred((1, -1), other), plan)

    def test_there_and_back(self):
        for plan, walls in zip(PLANS, drawn_floors(len(PLANS), 3, 41)):
            motion = made(plan)
            self.assertEqual(Floor(walls).moved(motion).moved(motion.back()).walls(), sorted(walls), plan)


if __name__ == "__main__":
    unittest.main()
