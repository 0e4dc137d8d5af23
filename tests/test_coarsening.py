"""Points 2, 3 (f) and 19: coarser ties."""

import copy
import itertools
import unittest

from wholeturn.coarsening import coarser_frame, coarser_place, coarser_table, coarser_turning, is_coarser
from wholeturn.errors import NoMeasure
from wholeturn.frames import Frame
from wholeturn.places import is_place, place_tie
from wholeturn.standings import standing
from wholeturn.tables import is_table
from wholeturn.ties import is_measure
from wholeturn.turnings import is_turning, lead_place, put_behind, still_turning
from tests.things import (
    HUGE, THINGS, every_place, every_table, every_turning, mixed_place, mixed_table, mixed_turning, spoiled,
)

FRAME = Frame((4, 3), (0, 4, 0))
PLACE = (1, ((3, 2), (0, 0), (2, 1)))
TABLE = ((), ((3, 2),), ((2, 0), (1, 1)))
TURNING = ((2, 1, 0), TABLE)
SMALL = [(Frame((4,), (0, 0)), (2,)), (Frame((4, 2), (0, 1)), (2, 2)), (Frame((2,), (0, 1, 0)), (2,))]
SIXTEEN = Frame((2, 4, 3), (0, 1, 1, 0) * 4)
CALLS = [(coarser_place, PLACE), (coarser_table, TABLE), (coarser_turning, TURNING)]

# All measures, and more tuples that are none.
TUPLES = [numbers for many in range(5) for numbers in itertools.product(range(-1, 7), repeat=many)]
MEASURES = [numbers for numbers in TUPLES if is_measure(numbers)]


class TestIsCoarser(unittest.TestCase):
    def test_all_measures_against_all(self):
        self.assertEqual(len(MEASURES), 4 + 16 + 26)
        for measure in MEASURES:
            for other in MEASURES:
                so = len(other) == len(measure) and not any(a % b for a, b in zip(measure, other))
                self.assertIs(is_coarser(measure, other), so, (measure, other))

    def test_named_edges(self):
        for measure in MEASURES:
            self.assertIs(is_coarser(measure, measure), True)
            self.assertIs(is_coarser(measure, measure[:-1]), False)
            self.assertIs(is_coarser(measure, measure + (2,)), False)
        self.assertIs(is_coarser((4, 3), (2, 3)), True)
        # A measure that parts only some of the numbers.
        self.assertIs(is_coarser((4, 3), (2, 2)), False)
        self.assertIs(is_coarser((4, 3), (3, 4)), False)
        self.assertIs(is_coarser((2, 3), (4, 3)), False)
        # 1 parts everything, but no measure has it; nor a number below 0.
        self.assertIs(is_coarser((4, 3), (1, 3)), False)
        self.assertIs(is_coarser((4, 3), (-2, 3)), False)
        self.assertIs(is_coarser((4, 3), (0, 3)), False)

    def test_tuples_that_are_no_measures(self):
        for thing in TUPLES:
            if thing not in MEASURES:
                for measure in [(4,), (4, 3), (4, 2, 2), (2, 2, 2), (5,)]:
                    self.assertIs(is_coarser(measure, thing), False)

    def test_wrong_things(self):
        for thing in THINGS + list(spoiled((2, 3))) + [[4, 3], [2, 3], (2, (3,)), ((2, 3),), HUGE, (HUGE, 3), (2, HUGE)]:
            kept = copy.deepcopy(thing)
            self.assertIs(is_coarser((4, 3), thing), False, thing)
            self.assertEqual(repr(thing), repr(kept))
        for thing in THINGS:
            for measure in [(2,), (2, 2), (2, 2, 2)]:
                self.assertIs(is_coarser(measure, thing), False, thing)


class TestCoarser(unittest.TestCase):
    def no_measure(self, thing):
        kept = copy.deepcopy(thing)
        for told, value in [(coarser_frame, None), *CALLS]:
            with self.assertRaises(NoMeasure) as caught:
                told(FRAME, thing) if value is None else told(FRAME, thing, value)
            self.assertIs(caught.exception.thing, thing)
        self.assertEqual(repr(thing), repr(kept))

    def test_written_out(self):
        self.assertEqual(coarser_frame(FRAME, (2, 3)), Frame((2, 3), (0, 4, 0)))
        self.assertEqual(coarser_place(FRAME, (2, 3), PLACE), (1, ((1, 2), (0, 0), (0, 1))))
        self.assertEqual(coarser_table(FRAME, (2, 3), TABLE), ((), ((1, 2),), ((0, 0), (1, 1))))
        self.assertEqual(coarser_turning(FRAME, (2, 3), TURNING), ((2, 1, 0), ((), ((1, 2),), ((0, 0), (1, 1)))))

    def test_by_its_own_measure_all_is_as_it_was(self):
        self.assertEqual(coarser_frame(FRAME, (4, 3)), FRAME)
        for told, value in CALLS:
            self.assertEqual(told(FRAME, (4, 3), value), value)

    def test_refused(self):
        for measure in [(4,), (2,), (4, 3, 2), (2, 2), (2, 3, 2), (3, 4), (1, 3), (0, 3), (-2, 3), (4, 4), (5, 3), ()]:
            self.no_measure(measure)

    def test_wrong_things(self):
        for thing in THINGS + list(spoiled((2, 3))) + [[2, 3], [4, 3], {2: 3}, "2 3", "4.3", (2, True), (True, 3)]:
            self.no_measure(thing)

    def test_small_frames_gone_through_whole(self):
        for frame, measure in SMALL:
            less = coarser_frame(frame, measure)
            self.assertEqual(less, Frame(measure, frame.hues))
            places = every_place(frame)
            coarse = {place: coarser_place(frame, measure, place) for place in places}
            self.assertEqual(sorted(set(coarse.values())), sorted(every_place(less)))
            for table in every_table(frame):
                told = coarser_table(frame, measure, table)
                self.assertIs(is_table(less, told), True)
                self.assertEqual(standing(less, told), tuple(coarse[place] for place in standing(frame, table)))
            for turning in every_turning(frame):
                told = coarser_turning(frame, measure, turning)
                self.assertIs(is_turning(less, told), True)
                for place in places:
                    self.assertEqual(lead_place(less, told, coarse[place]), coarse[lead_place(frame, turning, place)])

    def test_ties_of_places(self):
        frame, measure = SMALL[1]
        for one, other in itertools.product(every_place(frame), repeat=2):
            tie = place_tie(frame, one, other)
            rests = None if tie is None else tuple(a % b for a, b in zip(tie, measure))
            coarse = [coarser_place(frame, measure, place) for place in (one, other)]
            self.assertEqual(place_tie(coarser_frame(frame, measure), *coarse), rests)

    def test_sixteen_stems(self):
        measure = (2, 2, 3)
        less = coarser_frame(SIXTEEN, measure)
        first, second = mixed_turning(SIXTEEN, 1), mixed_turning(SIXTEEN, 2)
        coarse = [coarser_turning(SIXTEEN, measure, turning) for turning in (first, second)]
        both = coarser_turning(SIXTEEN, measure, put_behind(SIXTEEN, first, second))
        self.assertEqual(put_behind(less, *coarse), both)
        self.assertIs(is_table(less, coarser_table(SIXTEEN, measure, mixed_table(SIXTEEN, 7))), True)
        for stem in range(16):
            place = mixed_place(SIXTEEN, stem, 5)
            told = coarser_place(SIXTEEN, measure, place)
            self.assertIs(is_place(less, told), True)
            led = coarser_place(SIXTEEN, measure, lead_place(SIXTEEN, first, place))
            self.assertEqual(lead_place(less, coarse[0], told), led)
        self.assertEqual(coarser_turning(SIXTEEN, measure, still_turning(SIXTEEN)), still_turning(less))

    def test_arguments_by_name_and_asked_again(self):
        for step in range(2):
            self.assertIs(is_coarser(thing=(2, 3), measure=(4, 3)), True)
            self.assertEqual(coarser_frame(measure=(2, 3), frame=FRAME).measure, (2, 3))
            self.assertEqual(coarser_place(place=PLACE, measure=(4, 3), frame=FRAME), PLACE)
            self.assertEqual(coarser_table(table=TABLE, measure=(4, 3), frame=FRAME), TABLE)
            self.assertEqual(coarser_turning(turning=TURNING, measure=(4, 3), frame=FRAME), TURNING)


if __name__ == "__main__":
    unittest.main()
