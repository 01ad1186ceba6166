"""What several tests of the project take as their examples."""

HUGE = 10 ** 299 + 7  # a number of 300 figures

# The first cells are a whole stretch of the floor, so that every direction is among them.
NEAR_CELLS = [(a, b) for a in range(-4, 5) for b in range(-4, 5)]
FAR_CELLS = [(HUGE, 0), (0, -HUGE), (HUGE, HUGE), (-HUGE, HUGE - 1), (3 - HUGE, -HUGE), (12345, -678910)]
CELLS = NEAR_CELLS + FAR_CELLS

# Things that are no whole number, of many kinds.
NOT_WHOLE = [True, False, None, "", "0", "3", "way", 1.0, 0.0, 2.5, float("inf"), float("nan"), b"1", [], [1],
             (), (1,), (0, 0), {}, {1: 2}, {1}, object(), int, complex(1, 0)]
