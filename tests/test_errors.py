"""Points 2 and the interface: TurnError, and the refusals straight under it with their values."""

import unittest

from wholeturn import errors
from tests.things import HUGE, THINGS

VALUES = {
    "NoFrame": "field", "NoNumber": "number", "NoWay": "bar", "TooMany": "many", "NoMeasure": "thing",
    "NoName": "name", "Taken": "name", "NoPlace": "thing", "Full": "name", "Missing": "name", "NoRows": "thing",
    "NoTurning": "thing", "NoTimes": "times", "NoHue": "hue", "NoText": "row", "NoLine": "line",
}


class TestErrors(unittest.TestCase):
    def test_turn_error_is_a_value_error(self):
        self.assertEqual(errors.TurnError.__bases__, (ValueError,))

    def test_seventeen_refusals_straight_under_turn_error(self):
        below = errors.TurnError.__subclasses__()
        self.assertEqual(sorted(kind.__name__ for kind in below), sorted([*VALUES, "NoBack"]))
        self.assertEqual(len(below), 17)
        for kind in below:
            self.assertEqual(kind.__bases__, (errors.TurnError,), kind)
            self.assertEqual(kind.__subclasses__(), [], kind)

    def test_values_whatever_was_handed_in(self):
        # A number of so many figures can't be written out, so a message that shows it would fail.
        for name, value in VALUES.items():
            kind = getattr(errors, name)
            for thing in [*THINGS, 10 ** 6000]:
                error = kind(thing)
                self.assertIs(getattr(error, value), thing)
                self.assertIsInstance(str(error), str)

    def test_values_by_name(self):
        for name, value in VALUES.items():
            error = getattr(errors, name)(**{value: HUGE})
            self.assertEqual(vars(error), {value: HUGE})

    def test_one_value_is_needed(self):
        for name in VALUES:
            with self.assertRaises(TypeError):
                getattr(errors, name)()
            with self.assertRaises(TypeError):
                getattr(errors, name)(1, 2)

    def test_no_back_has_no_value(self):
        self.assertEqual(vars(errors.NoBack()), {})
        with self.assertRaises(TypeError):
            errors.NoBack(1)

    def test_caught_as_turn_error(self):
        with self.assertRaises(errors.TurnError) as caught:
            raise errors.TooMany(17)
        self.assertEqual(caught.exception.many, 17)


if __name__ == "__main__":
    unittest.main()
