"""The interface: sixcells/errors.py."""

import unittest

from sixcells.errors import FloorError, NoCell, NoPlace, NoPoint, NoSize, NoWay

FIVE = [NoCell, NoWay, NoPlace, NoSize, NoPoint]


class ErrorClasses(unittest.TestCase):
    def test_floor_error_stands_under_value_error(self):
        self.assertEqual(FloorError.__bases__, (ValueError,))

    def test_each_of_the_five_stands_under_floor_error(self):
        for kind in FIVE:
            self.assertEqual(kind.__bases__, (FloorError,), kind)

    def test_none_of_the_five_stands_under_another(self):
        for kind in FIVE:
            for other in FIVE:
                self.assertEqual(issubclass(kind, other), kind is other, (kind, other))

    def test_names(self):
        names = [kind.__name__ for kind in [FloorError] + FIVE]
        self.assertEqual(names, ["FloorError", "NoCell", "NoWay", "NoPlace", "NoSize", "NoPoint"])

    def test_field_at_is_set_when_the_error_is_made(self):
        for kind in (NoCell, NoWay):
            for at in (0, 1, 999):
                self.assertEqual(kind(at).at, at)

    def test_each_can_be_raised_and_taken_as_a_refusal(self):
        errors = [FloorError("no"), NoCell(0), NoWay(0), NoPlace("no"), NoSize("no"), NoPoint("no")]
        for error in errors:
            with self.assertRaises(FloorError):
                raise error


if __name__ == "__main__":
    unittest.main()
