"""Points 1, 2 and 6 to 9, and the interface: sixcells/motions.py."""

import inspect
import unittest

from examples import CELLS, FAR_CELLS, HUGE, NEAR_CELLS
from plans import CHAINS, PLANS, SINGLES, done, drawn_plans, made, turned
from sixcells.cells import distance, is_cell
from sixcells.motions import Chain, Mirror, Motion, Shift, Turn


def by_form(form, cell):
    """What point 9 says that a form does to a cell."""
    flip, times, to = form
    if flip:
        cell = (cell[1], cell[0])
    cell = turned(cell, times)
    return (cell[0] + to[0], cell[1] + to[1])


SOME_CELLS = [(0, 0), (1, 0), (0, 1), (3, -8), (-2, -5)] + FAR_CELLS


class Interface(unittest.TestCase):
    def test_classes(self):
        for kind in (Turn, Mirror, Shift, Chain):
            self.assertTrue(issubclass(kind, Motion), kind)

    def test_arguments_and_defaults(self):
        asked = [(Motion, "()"), (Turn, "(times=1)"), (Mirror, "()"), (Shift, "(by)"), (Chain, "(motions)")]
        for kind, arguments in asked:
            self.assertEqual(str(inspect.signature(kind)), arguments, kind)
            self.assertEqual(str(inspect.signature(kind.image)), "(self, cell)", kind)
            self.assertEqual(str(inspect.signature(kind.back)), "(self)", kind)
            self.assertEqual(str(inspect.signature(kind.form)), "(self)", kind)

    def test_arguments_by_name(self):
        self.assertEqual(Turn(times=2).image(cell=(1, 0)), (-1, 1))
        self.assertEqual(Shift(by=(2, 3)).image(cell=(1, 0)), (3, 3))
        self.assertEqual(Chain(motions=[Mirror()]).image(cell=(1, 0)), (0, 1))


class Images(unittest.TestCase):
    def test_plain(self):
        for cell in CELLS:
            self.assertEqual(Motion().image(cell), cell)

    def test_turn_by_none_told(self):
        self.assertEqual(Turn().image((1, 0)), (0, 1))
        for a, b in CELLS:
            self.assertEqual(Turn().image((a, b)), (-b, a + b))

    def test_turn_by_each_number(self):
        ways = [(1, 0), (0, 1), (-1, 1), (-1, 0), (0, -1), (1, -1)]
        for times in range(-13, 14):
            self.assertEqual(Turn(times).image((1, 0)), ways[times % 6])

    def test_turn_once_below_zero(self):
        for a, b in CELLS:
            self.assertEqual(Turn(-1).image((a, b)), (a + b, -a))

    def test_six_turns_are_nothing(self):
        for times in (0, 6, -6, 12, 6 * HUGE, -6 * HUGE):
            for cell in CELLS:
                self.assertEqual(Turn(times).image(cell), cell)

    def test_turn_by_many_figures(self):
        for times in range(-6, 7):
            for cell in SOME_CELLS:
                self.assertEqual(Turn(6 * HUGE + times).image(cell), turned(cell, times % 6))
                self.assertEqual(Turn(times - 6 * HUGE).image(cell), turned(cell, times % 6))

    def test_mirror(self):
        self.assertEqual(Mirror().image((2, -7)), (-7, 2))
        for a, b in CELLS:
            self.assertEqual(Mirror().image((a, b)), (b, a))

    def test_shift(self):
        self.assertEqual(Shift((3, -4)).image((10, 20)), (13, 16))
        for x, y in [(0, 0), (1, 0), (0, -1), (-5, 9), (HUGE, -HUGE)]:
            for a, b in CELLS:
                self.assertEqual(Shift((x, y)).image((a, b)), (a + x, b + y))

    def test_a_cell_comes_of_each(self):
        for plan in PLANS:
            for cell in SOME_CELLS:
                self.assertTrue(is_cell(made(plan).image(cell)))


class Chains(unittest.TestCase):
    def test_of_no_motions(self):
        for cell in CELLS:
            self.assertEqual(Chain([]).image(cell), cell)
            self.assertEqual(Chain([Chain([]), Chain([Chain([])])]).image(cell), cell)

    def test_of_one_motion(self):
        for plan in SINGLES:
            for cell in SOME_CELLS:
                self.assertEqual(Chain([made(plan)]).image(cell), made(plan).image(cell))

    def test_first_one_first(self):
        self.assertEqual(Chain([Shift((1, 0)), Turn()]).image((0, 0)), (0, 1))
        self.assertEqual(Chain([Turn(), Shift((1, 0))]).image((0, 0)), (1, 0))
        self.assertEqual(Chain([Shift((1, 2)), Mirror()]).image((0, 0)), (2, 1))
        self.assertEqual(Chain([Mirror(), Shift((1, 2))]).image((0, 0)), (1, 2))
        self.assertEqual(Chain([Mirror(), Turn()]).image((1, 0)), (-1, 1))
        self.assertEqual(Chain([Turn(), Mirror()]).image((1, 0)), (1, 0))

    def test_every_two_behind_one_another(self):
        for first in SINGLES:
            for second in SINGLES:
                chain = made([first, second])
                for cell in [(0, 0), (5, 2), (-1, 8)]:
                    self.assertEqual(chain.image(cell), done([first, second], cell), (first, second))

    def test_chains_within_chains(self):
        for plan in CHAINS + drawn_plans():
            for cell in SOME_CELLS:
                self.assertEqual(made(plan).image(cell), done(plan, cell), plan)

    def test_ten_deep(self):
        plan = [("turn", 1)]
        for depth in range(9):
            plan = [("shift", (depth, 1)), plan, "mirror"]
        for cell in CELLS:
            self.assertEqual(made(plan).image(cell), done(plan, cell))

    def test_a_thousand_motions(self):
        plan = [("turn", 1), ("shift", (2, -1)), "mirror", ("shift", (1, 1))] * 250
        for cell in SOME_CELLS:
            self.assertEqual(made(plan).image(cell), done(plan, cell))

    def test_a_thousand_each_ten_deep(self):
        chain = Shift((1, -2))
        for _ in range(10):
            chain = Chain([chain] * 1000)
        self.assertEqual(chain.image((0, 5)), (10 ** 30, 5 - 2 * 10 ** 30))
        self.assertEqual(chain.back().image((0, 5)), (-10 ** 30, 5 + 2 * 10 ** 30))

    def test_keeps_its_motions(self):
        motions = [Shift((1, 2)), Turn()]
        chain = Chain(motions)
        outer = Chain([chain])
        motions.append(Mirror())
        motions[0] = Shift((100, 100))
        self.assertEqual(chain.image((3, 4)), (-6, 10))
        self.assertEqual(chain.form(), Chain([Shift((1, 2)), Turn()]).form())
        self.assertEqual(chain.back().image((-6, 10)), (3, 4))
        motions.clear()
        self.assertEqual(chain.image((3, 4)), (-6, 10))
        self.assertEqual(outer.image((3, 4)), (-6, 10))

    def test_list_handed_in_stays(self):
        motions = [Shift((1, 2)), Chain([Mirror()]), Turn()]
        before = list(motions)
        chain = Chain(motions)
        chain.image((3, 4))
        chain.form()
        chain.back().image((3, 4))
        self.assertEqual(len(motions), 3)
        for one, other in zip(motions, before):
            self.assertIs(one, other)

    def test_motions_in_a_chain_stay(self):
        turn, shift = Turn(2), Shift((1, 2))
        Chain([turn, shift, turn]).back()
        self.assertEqual(turn.image((1, 0)), (-1, 1))
        self.assertEqual(shift.image((1, 0)), (2, 2))


class WaysBack(unittest.TestCase):
    def test_back_is_a_motion(self):
        for plan in PLANS:
            back = made(plan).back()
            self.assertIsInstance(back, Motion)
            self.assertIsInstance(back.back(), Motion)

    def test_back_carries_each_image_to_its_cell(self):
        for plan in PLANS:
            motion = made(plan)
            back = motion.back()
            for cell in SOME_CELLS:
                self.assertEqual(back.image(motion.image(cell)), cell, plan)
                self.assertEqual(motion.image(back.image(cell)), cell, plan)
                self.assertEqual(back.back().image(cell), motion.image(cell), plan)

    def test_written_out(self):
        self.assertEqual(Motion().back().image((3, 4)), (3, 4))
        self.assertEqual(Turn().back().image((-4, 7)), (3, 4))
        self.assertEqual(Mirror().back().image((4, 3)), (3, 4))
        self.assertEqual(Shift((5, -6)).back().image((8, -2)), (3, 4))
        self.assertEqual(Chain([]).back().image((3, 4)), (3, 4))
        self.assertEqual(Chain([Shift((1, 2)), Turn()]).back().image((-6, 10)), (3, 4))

    def test_motion_stays_as_it_was(self):
        for plan in PLANS:
            motion = made(plan)
            form = motion.form()
            motion.back()
            self.assertEqual(motion.form(), form)


class Forms(unittest.TestCase):
    def test_kinds(self):
        for plan in PLANS:
            for motion in (made(plan), made(plan).back()):
                form = motion.form()
                self.assertIs(type(form), tuple)
                self.assertEqual(len(form), 3)
                self.assertIs(type(form[0]), bool)
                self.assertIs(type(form[1]), int)
                self.assertIn(form[1], range(6))
                self.assertTrue(is_cell(form[2]))

    def test_written_out(self):
        self.assertEqual(Motion().form(), (False, 0, (0, 0)))
        self.assertEqual(Turn().form(), (False, 1, (0, 0)))
        self.assertEqual(Turn(6).form(), (False, 0, (0, 0)))
        self.assertEqual(Turn(-1).form(), (False, 5, (0, 0)))
        self.assertEqual(Mirror().form(), (True, 0, (0, 0)))
        self.assertEqual(Shift((3, -4)).form(), (False, 0, (3, -4)))
        self.assertEqual(Chain([]).form(), (False, 0, (0, 0)))
        self.assertEqual(Chain([Mirror(), Turn()]).form(), (True, 1, (0, 0)))
        self.assertEqual(Chain([Turn(), Mirror()]).form(), (True, 5, (0, 0)))
        self.assertEqual(Chain([Shift((1, 2)), Turn()]).form(), (False, 1, (-2, 3)))
        self.assertEqual(Chain([Shift((1, 2)), Mirror()]).form(), (True, 0, (2, 1)))

    def test_form_does_what_the_motion_does(self):
        for plan in PLANS:
            for motion in (made(plan), made(plan).back()):
                form = motion.form()
                for cell in SOME_CELLS:
                    self.assertEqual(by_form(form, cell), motion.image(cell), plan)

    def test_forms_tell_motions_apart_just_as_images_do(self):
        # A motion is settled by its images of these three cells.
        corners = [(0, 0), (1, 0), (0, 1)]
        images = [[done(plan, cell) for cell in corners] for plan in PLANS]
        forms = [made(plan).form() for plan in PLANS]
        for one in range(len(PLANS)):
            for other in range(len(PLANS)):
                same = images[one] == images[other]
                self.assertEqual(forms[one] == forms[other], same, (PLANS[one], PLANS[other]))

    def test_every_form_comes_back_from_its_chain(self):
        for flip in (False, True):
            for times in range(6):
                for to in [(0, 0), (4, -1), (-HUGE, 3)]:
                    motions = ([Mirror()] if flip else []) + [Turn(times), Shift(to)]
                    self.assertEqual(Chain(motions).form(), (flip, times, to))

    def test_back_and_forth_is_plain(self):
        for plan in PLANS:
            motion = made(plan)
            self.assertEqual(Chain([motion, motion.back()]).form(), Motion().form())
            self.assertEqual(Chain([motion.back(), motion]).form(), Motion().form())

    def test_distances_stay(self):
        for plan in PLANS:
            motion = made(plan)
            for cell in NEAR_CELLS[::7] + FAR_CELLS:
                for other in [(0, 0), (2, -3), (HUGE, 1)]:
                    moved = distance(motion.image(cell), motion.image(other))
                    self.assertEqual(moved, distance(cell, other), plan)


if __name__ == "__main__":
    unittest.main()
