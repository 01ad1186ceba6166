"""Motions as plain plans, which several tests make and also do without the program."""

import random

from examples import HUGE
from sixcells.motions import Chain, Mirror, Motion, Shift, Turn


def turned(cell, times):
    """What point 6 says of a turn, done one after the other; times from 0 on."""
    for _ in range(times):
        cell = (-cell[1], cell[0] + cell[1])
    return cell


def made(plan):
    """A motion by its plan: a text or a tuple for one motion, a list for a chain."""
    if isinstance(plan, list):
        return Chain([made(part) for part in plan])
    if plan == "plain":
        return Motion()
    if plan == "mirror":
        return Mirror()
    word, value = plan
    return Turn(value) if word == "turn" else Shift(value)


def done(plan, cell):
    """What the points 6 and 8 say comes of a cell by a plan, without the program."""
    if isinstance(plan, list):
        for part in plan:
            cell = done(part, cell)
        return cell
    if plan == "plain":
        return cell
    if plan == "mirror":
        return (cell[1], cell[0])
    word, value = plan
    if word == "turn":
        return turned(cell, value % 6)
    return (cell[0] + value[0], cell[1] + value[1])


SINGLES = ["plain", "mirror", ("shift", (0, 0)), ("shift", (1, 0)), ("shift", (-3, 7)), ("shift", (HUGE, -5))]
SINGLES += [("turn", times) for times in range(-7, 14)]
SINGLES += [("turn", HUGE), ("turn", -HUGE), ("turn", 6 * HUGE), ("turn", 6 * HUGE + 1), ("turn", 1 - 6 * HUGE)]

CHAINS = [[], [[]], [[], [[], []]], ["plain"], ["mirror"], [("turn", 2)], [("shift", (4, -9))],
          ["mirror", "mirror"], ["mirror", ("turn", 1)], [("turn", 1), "mirror"],
          [("shift", (1, 2)), ("turn", 1)], [("turn", 1), ("shift", (1, 2))],
          [("shift", (1, 2)), "mirror"], ["mirror", ("shift", (1, 2))],
          [("turn", 1), ["mirror", ("shift", (5, -1)), [("turn", -2)]], "mirror", ("shift", (0, 3))],
          [("turn", HUGE), "mirror", ("shift", (HUGE, HUGE)), ("turn", 4)]]


def drawn_plans():
    """Chains drawn from a fixed seed, within one another at most ten deep."""
    draw = random.Random(6)

    def plan(depth):
        parts = [draw.choice(SINGLES) for _ in range(draw.randrange(4))]
        if depth > 1:
            parts.insert(draw.randrange(len(parts) + 1), plan(depth - 1))
        return parts

    return [plan(depth) for depth in range(1, 11) for _ in range(4)]


PLANS = SINGLES + CHAINS + drawn_plans()
