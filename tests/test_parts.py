"""Points 2, 11 and 12: parts, and how many free stems have each sign."""

import copy
import itertools
import unittest

from wholeturn.errors import NoWay
from wholeturn.frames import Frame
from wholeturn.parts import is_part, sign_counts
from tests.things import (
    THINGS, every_place, raw_row_bars, raw_sign_counts, sampled_parts, spoiled, turned_about, twenty_rows,
)

FRAME = Frame((3,), (0, 1, 0, 0))
AHEAD = ((1, ((0,), (0,), (1,), (2,))), (1, ((1,), (0,), (1,), (2,))))
BEHIND = ((1, ((2,), (0,), (0,), (1,))), (1, ((2,), (0,), (1,), (1,))))
PART = tuple(zip(AHEAD, BEHIND))
SIXTEEN = Frame((2, 3, 5), (0, 1, 1, 0) * 4)
SMALL = [
    Frame((2,), (0, 0)), Frame((2,), (0, 1)), Frame((3,), (0, 0, 0)), Frame((2,), (0, 0, 1, 0)), Frame((2, 2), (0, 0, 0)),
]


class TestIsPart(unittest.TestCase):
    def test_ordinary_parts(self):
        self.assertIs(is_part(FRAME, PART), True)
        self.assertIs(is_part(FRAME, turned_about(PART)), True)
        self.assertIs(is_part(FRAME, PART[:1]), True)
        self.assertIs(is_part(FRAME, PART[1:]), True)
        self.assertIs(is_part(FRAME, ()), True)

    def test_twenty_rows(self):
        part = twenty_rows(SIXTEEN)
        self.assertEqual(len(part), 20)
        self.assertIs(is_part(SIXTEEN, part), True)
        self.assertIs(is_part(SIXTEEN, part[:18] + (part[19], part[18])), False)
        self.assertIs(is_part(SIXTEEN, part[:19] + ((part[19][0], part[3][1]),)), False)
        self.assertIs(is_part(SIXTEEN, part[:19] + ((part[18][0], part[19][1]),)), False)

    def test_of_any_bar(self):
        # Whatever bars it, a part is a part.
        zero = ((0,),) * 4
        for one, other in itertools.product(range(4), repeat=2):
            self.assertIs(is_part(FRAME, (((one, zero), (other, zero)),)), True)
        self.assertIs(is_part(FRAME, (((0, zero), (1, zero)), ((1, zero), (2, zero)))), True)

    def test_order(self):
        self.assertIs(is_part(FRAME, PART[::-1]), False)
        places = sorted(every_place(SMALL[0]))
        for ones in itertools.product(places, repeat=3):
            for others in itertools.permutations(places, 3):
                rising = ones[0] < ones[1] < ones[2]
                self.assertIs(is_part(SMALL[0], tuple(zip(ones, others))), rising)

    def test_places_twice(self):
        self.assertIs(is_part(FRAME, ((AHEAD[0], BEHIND[0]), (AHEAD[0], BEHIND[1]))), False)
        self.assertIs(is_part(FRAME, ((AHEAD[0], BEHIND[1]), (AHEAD[1], BEHIND[1]))), False)
        self.assertIs(is_part(FRAME, (PART[0], PART[0])), False)
        # A place may be the first one of a row and the second one of another.
        self.assertIs(is_part(FRAME, ((AHEAD[0], AHEAD[1]), (AHEAD[1], AHEAD[0]))), True)
        self.assertIs(is_part(FRAME, ((AHEAD[0], AHEAD[0]), (AHEAD[1], AHEAD[1]))), True)
        places = sorted(every_place(SMALL[1]))
        for ones in itertools.combinations(places, 2):
            for others in itertools.product(places, repeat=2):
                self.assertIs(is_part(SMALL[1], tuple(zip(ones, others))), others[0] != others[1])

    def test_of_another_frame(self):
        self.assertIs(is_part(Frame((3,), (0, 0, 0)), PART), False)
        self.assertIs(is_part(Frame((2,), (0, 0, 0, 0)), PART), False)
        self.assertIs(is_part(Frame((3, 3), (0, 0, 0, 0)), PART), False)
        self.assertIs(is_part(Frame((5,), (1, 1, 2, 3)), PART), True)

    def test_wrong_things(self):
        row = PART[0]
        for thing in THINGS:
            self.assertIs(is_part(FRAME, thing), False, thing)
            self.assertIs(is_part(FRAME, (thing,)), False, thing)
            self.assertIs(is_part(FRAME, (row, thing)), False, thing)
            self.assertIs(is_part(FRAME, ((row[0], thing),)), False, thing)
            self.assertIs(is_part(FRAME, ((thing, row[1]),)), False, thing)
        for wrong in spoiled(PART):
            kept = copy.deepcopy(wrong)
            so = isinstance(wrong, tuple) and wrong == PART[:1]
            self.assertIs(is_part(FRAME, wrong), so, wrong)
            self.assertEqual(repr(wrong), repr(kept))
        self.assertIs(is_part(FRAME, row), False)
        self.assertIs(is_part(FRAME, [row]), False)
        self.assertIs(is_part(FRAME, (list(row),)), False)
        truthful = ((True, row[0][1]), row[1])
        self.assertIs(is_part(FRAME, (truthful,)), False)


class TestSignCounts(unittest.TestCase):
    def refused(self, frame, part, bar):
        with self.assertRaises(NoWay) as caught:
            sign_counts(frame, part)
        self.assertEqual(caught.exception.bar, bar)

    def test_written_out(self):
        self.assertEqual(sign_counts(FRAME, PART), (((0, ((0,),)), 2, 2), ((0, ((1,),)), 1, 1)))
        self.assertEqual(sign_counts(FRAME, PART[:1]), (((0, ()), 3, 3),))
        self.assertEqual(sign_counts(FRAME, ()), (((0, ()), 3, 3), ((1, ()), 1, 1)))

    def test_unlike_numbers(self):
        behind = (BEHIND[0], (1, ((0,), (0,), (1,), (1,))))
        part = tuple(zip(AHEAD, behind))
        self.assertEqual(sign_counts(FRAME, part), (((0, ((0,),)), 2, 1), ((0, ((1,),)), 1, 2)))
        # Turned about, the rows change their order, and the other one leads.
        self.assertEqual(sign_counts(FRAME, turned_about(part)), (((0, ((0,),)), 1, 2), ((0, ((2,),)), 2, 1)))
        behind = (BEHIND[0], (1, ((1,), (0,), (2,), (0,))))
        part = tuple(zip(AHEAD, behind))
        self.assertEqual(sign_counts(FRAME, part), (((0, ((0,),)), 2, 0), ((0, ((1,),)), 1, 0), ((0, ((2,),)), 0, 3)))

    def test_the_leading_row_is_the_first_one(self):
        more = (1, ((2,), (0,), (0,), (2,)))
        part = tuple(zip(AHEAD + (more,), AHEAD + (more,)))
        # Against the second row, stem 0 would have 1 and stem 2 would have 2 in both places.
        signs = (((0, ((0,), (0,))), 1, 1), ((0, ((0,), (2,))), 1, 1), ((0, ((1,), (2,))), 1, 1))
        self.assertEqual(sign_counts(FRAME, part), signs)

    def test_rows_of_two_stems(self):
        # Rows 1 and 3 have leading rows, 0 and 2: the differences go in the order of the rows.
        frame = Frame((5,), (0, 0, 7))
        ones = [(0, ((0,), (1,), (4,))), (0, ((0,), (2,), (0,))), (1, ((1,), (0,), (3,))), (1, ((2,), (0,), (1,)))]
        part = tuple((one, one) for one in ones)
        self.assertEqual(raw_row_bars(frame, part), [])
        self.assertEqual(sign_counts(frame, part), (((7, ((1,), (3,))), 1, 1),))

    def test_no_free_stems(self):
        frame = Frame((2,), (0, 1))
        zero = ((0,), (0,))
        self.assertEqual(sign_counts(frame, (((0, zero), (0, zero)), ((1, zero), (1, zero)))), ())

    def test_refused_by_the_first_bar(self):
        zero = ((0,),) * 4
        one, two = ((0,), (0,), (1,), (0,)), ((0,), (0,), (0,), (1,))
        self.refused(FRAME, (((0, zero), (1, zero)),), ("hue", 0))
        self.refused(FRAME, (((0, zero), (0, zero)), ((2, zero), (1, zero)), ((3, zero), (1, one))), ("hue", 1))
        self.refused(FRAME, (((0, zero), (0, zero)), ((0, one), (2, zero))), ("stems", 0, 1))
        self.refused(FRAME, (((0, zero), (0, zero)), ((2, zero), (0, one))), ("stems", 0, 1))
        self.refused(FRAME, (((0, zero), (0, two)), ((2, zero), (2, zero)), ((3, zero), (3, zero))), ("tie", 0, 2))

    def test_samples_of_small_frames(self):
        for frame in SMALL:
            told = 0
            for part in sampled_parts(frame, 300):
                bars = raw_row_bars(frame, part)
                if bars:
                    self.refused(frame, part, bars[0])
                else:
                    self.assertEqual(sign_counts(frame, part), raw_sign_counts(frame, part))
                    told += 1
            self.assertGreater(told, 50)

    def test_twenty_rows(self):
        part = twenty_rows(SIXTEEN)
        self.assertEqual(sign_counts(SIXTEEN, part), raw_sign_counts(SIXTEEN, part))
        self.assertEqual(sum(ahead for sign, ahead, behind in sign_counts(SIXTEEN, part)), 11)
        self.assertEqual({len(sign[1]) for sign, ahead, behind in sign_counts(SIXTEEN, part)}, {15})

    def test_arguments_by_name_and_asked_again(self):
        for step in range(2):
            self.assertIs(is_part(thing=PART, frame=FRAME), True)
            self.assertEqual(sign_counts(part=PART, frame=FRAME), (((0, ((0,),)), 2, 2), ((0, ((1,),)), 1, 1)))


if __name__ == "__main__":
    unittest.main()
