"""Point 5: frames."""

import copy
import unittest

from wholeturn.errors import NoFrame
from wholeturn.frames import Frame
from tests.things import HUGE, NO_NUMBERS, NO_TUPLES, THINGS

SIXTEEN = (0, 9, 1, 8, 2, 7, 3, 6, 4, 5, 5, 4, 0, 0, 9, 9)


class TestFrames(unittest.TestCase):
    def refused(self, field, measure, hues):
        with self.assertRaises(NoFrame) as caught:
            Frame(measure, hues)
        self.assertEqual(caught.exception.field, field, (measure, hues))

    def test_values(self):
        frame = Frame((2, 3), (4, 0, 4))
        self.assertEqual(frame.measure, (2, 3))
        self.assertEqual(frame.hues, (4, 0, 4))
        self.assertEqual(frame.stem_count(), 3)
        self.assertEqual(vars(frame), {"measure": (2, 3), "hues": (4, 0, 4)})

    def test_named_edges(self):
        self.assertEqual(Frame((2,), (0, 9)).stem_count(), 2)
        self.assertEqual(Frame((2, 3, 5), SIXTEEN).stem_count(), 16)
        self.assertEqual(Frame((5, 5), (0,) * 16).hues, (0,) * 16)
        self.refused("hues", (2,), ())
        self.refused("hues", (2,), (0,))
        self.refused("hues", (2,), SIXTEEN + (0,))
        self.refused("hues", (2,), (0,) * 40)
        self.refused("hues", (2,), (0, 10))
        self.refused("hues", (2,), (-1, 0))
        self.refused("measure", (2, 4, 4), (0, 1))
        self.refused("measure", (), (0, 1))
        self.refused("measure", (1,), (0, 1))
        self.refused("measure", (6,), (0, 1))
        self.refused("measure", (2, 2, 2, 2), (0, 1))

    def test_wrong_measures(self):
        for thing in [thing for thing in THINGS if thing != (5,)]:
            self.refused("measure", thing, (0, 1))

    def test_wrong_hues(self):
        for thing in NO_TUPLES:
            self.refused("hues", (2,), thing)
        for wrong in NO_NUMBERS + [HUGE, -HUGE, -1, 10]:
            self.refused("hues", (2,), (wrong, 1))
            self.refused("hues", (2,), (0, wrong))
            self.refused("hues", (2,), (0, 1, wrong))
        self.refused("hues", (2,), [0, 1])
        self.refused("hues", (2,), ((0, 1), (0, 1)))
        self.refused("hues", (2,), "01")

    def test_measure_is_named_first(self):
        for thing in [thing for thing in THINGS if thing != (5,)]:
            self.refused("measure", thing, thing)
        self.refused("measure", (0, 1), (0,))

    def test_refused_lists_are_not_changed(self):
        measure, hues = [2, 3], [0, [1], {"a": []}]
        kept = copy.deepcopy((measure, hues))
        self.refused("measure", measure, hues)
        self.refused("hues", (2,), hues)
        self.assertEqual((measure, hues), kept)

    def test_equal_just_where_both_values_are(self):
        values = [((2,), (0, 0)), ((3,), (0, 0)), ((2,), (0, 1)), ((2,), (0, 0, 0)), ((2, 2), (0, 0)), ((3,), (0, 1))]
        for one in values:
            for other in values:
                self.assertIs(Frame(*one) == Frame(*other), one == other)
                self.assertIs(Frame(*one) != Frame(*other), one != other)

    def test_equal_to_nothing_of_another_kind(self):
        class Alike:
            def __init__(self, frame):
                self.measure = frame.measure
                self.hues = frame.hues

        frame = Frame((2,), (0, 1))
        for thing in THINGS + [((2,), (0, 1)), Alike(frame), NoFrame("hues"), Frame]:
            self.assertIs(frame == thing, False)
            self.assertIs(thing == frame, False)
            self.assertIs(frame != thing, True)

    def test_arguments_by_name(self):
        self.assertEqual(Frame(hues=(0, 1), measure=(2,)), Frame((2,), (0, 1)))

    def test_method_stands_in_the_class(self):
        self.assertIn("stem_count", vars(Frame))


if __name__ == "__main__":
    unittest.main()
