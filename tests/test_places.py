"""Point 7: places, their numbers and their ties."""

import copy
import unittest

from wholeturn.errors import NoNumber
from wholeturn.frames import Frame
from wholeturn.places import is_place, place_at, place_count, place_number, place_tie
from tests.things import HUGE, NO_NUMBERS, THINGS, every_place, mixed_place, spoiled

SMALL = [
    Frame((2,), (0, 0)), Frame((2,), (0, 1, 0)), Frame((3,), (5, 5, 5)), Frame((2, 2), (0, 1)), Frame((2, 3), (0, 0)),
    Frame((2, 2), (1, 0, 1)), Frame((2,), (0, 0, 0, 0)), Frame((5,), (0, 1, 1)), Frame((2, 3, 5), (9, 9)),
    Frame((2, 2, 2), (0, 1, 0)),
]
SIXTEEN = Frame((2, 3, 5), (0,) * 16)
FRAME = Frame((2, 3), (0, 1, 0))
PLACE = (1, ((1, 2), (0, 0), (0, 1)))


class TestIsPlace(unittest.TestCase):
    def test_ordinary_places(self):
        self.assertIs(is_place(FRAME, PLACE), True)
        self.assertIs(is_place(FRAME, (0, ((0, 0), (1, 2), (1, 2)))), True)
        self.assertIs(is_place(FRAME, (2, ((1, 2), (1, 2), (0, 0)))), True)
        self.assertIs(is_place(SIXTEEN, mixed_place(SIXTEEN, 15, 1)), True)
        for frame in SMALL:
            for place in every_place(frame):
                self.assertIs(is_place(frame, place), True, place)

    def test_own_stem_is_nought(self):
        self.assertIs(is_place(FRAME, (1, ((1, 2), (0, 1), (0, 1)))), False)
        self.assertIs(is_place(FRAME, (1, ((1, 2), (1, 0), (0, 1)))), False)
        self.assertIs(is_place(FRAME, (0, PLACE[1])), False)
        self.assertIs(is_place(FRAME, (2, PLACE[1])), False)
        says = mixed_place(SIXTEEN, 15, 1)[1]
        self.assertIs(is_place(SIXTEEN, (15, says[:-1] + ((0, 0, 1),))), False)

    def test_stems_and_ties_at_the_bounds(self):
        even = ((0, 0),) * 3
        self.assertIs(is_place(FRAME, (0, even)), True)
        self.assertIs(is_place(FRAME, (2, even)), True)
        self.assertIs(is_place(FRAME, (3, even)), False)
        self.assertIs(is_place(FRAME, (-1, even)), False)
        self.assertIs(is_place(FRAME, (0, even[:1] + ((1, 2),) * 2)), True)
        self.assertIs(is_place(FRAME, (0, even[:2] + ((2, 2),))), False)
        self.assertIs(is_place(FRAME, (0, even[:2] + ((1, 3),))), False)
        self.assertIs(is_place(FRAME, (0, even[:2] + ((-1, 0),))), False)

    def test_of_another_frame(self):
        for frame in SMALL:
            if (frame.measure, frame.stem_count()) != ((2, 3), 3):
                self.assertIs(is_place(frame, PLACE), False)

    def test_wrong_things(self):
        for frame, place in [(FRAME, PLACE), (SMALL[0], (0, ((0,), (1,)))), (SMALL[8], (1, ((1, 2, 4), (0, 0, 0))))]:
            for thing in THINGS:
                self.assertIs(is_place(frame, thing), False, thing)
            for wrong in spoiled(place):
                kept = copy.deepcopy(wrong)
                self.assertIs(is_place(frame, wrong), False, wrong)
                self.assertEqual(repr(wrong), repr(kept))
        self.assertIs(is_place(FRAME, [1, PLACE[1]]), False)
        self.assertIs(is_place(FRAME, (True, PLACE[1])), False)
        self.assertIs(is_place(SMALL[0], (0, ((False,), (1,)))), False)
        self.assertIs(is_place(SMALL[0], (0, ((0,), (True,)))), False)


class TestNumbers(unittest.TestCase):
    def refused(self, frame, number):
        with self.assertRaises(NoNumber) as caught:
            place_at(frame, number)
        self.assertIs(caught.exception.number, number)

    def test_small_frames_gone_through_whole(self):
        for frame in SMALL:
            places = sorted(every_place(frame))
            self.assertEqual(place_count(frame), len(places))
            for number, place in enumerate(places):
                self.assertEqual(place_at(frame, number), place)
                self.assertEqual(place_number(frame, place), number)
            self.refused(frame, len(places))
            self.refused(frame, -1)

    def test_written_out(self):
        frame = Frame((3,), (0, 1))
        self.assertEqual(
            [place_at(frame, number) for number in range(6)],
            [(0, ((0,), (0,))), (0, ((0,), (1,))), (0, ((0,), (2,))),
             (1, ((0,), (0,))), (1, ((1,), (0,))), (1, ((2,), (0,)))],
        )
        self.assertEqual(place_number(FRAME, PLACE), 36 + 5 * 6 + 1)

    def test_sixteen_stems(self):
        many = 16 * 30 ** 15
        self.assertEqual(place_count(SIXTEEN), many)
        zero, last = (0, 0, 0), (1, 2, 4)
        self.assertEqual(place_at(SIXTEEN, 0), (0, (zero,) * 16))
        self.assertEqual(place_at(SIXTEEN, many - 1), (15, (last,) * 15 + (zero,)))
        self.assertEqual(place_at(SIXTEEN, 30 ** 15 - 1), (0, (zero,) + (last,) * 15))
        self.assertEqual(place_at(SIXTEEN, 30 ** 15), (1, (zero,) * 16))
        for stem in range(16):
            for seed in range(20):
                place = mixed_place(SIXTEEN, stem, seed)
                self.assertEqual(place_at(SIXTEEN, place_number(SIXTEEN, place)), place)
        for step in range(200):
            number = step * many // 199 - (step == 199)
            place = place_at(SIXTEEN, number)
            self.assertIs(is_place(SIXTEEN, place), True)
            self.assertEqual(place_number(SIXTEEN, place), number)
        for number in [many, many + 1, -1, -many, HUGE, -HUGE, 10 ** 200 - 1]:
            self.refused(SIXTEEN, number)

    def test_numbers_of_anything(self):
        for wrong in NO_NUMBERS + [((0,), (0,)), (0, ((0,), (0,))), [PLACE], "-1"]:
            self.refused(FRAME, wrong)
            self.refused(SMALL[0], wrong)


class TestPlaceTies(unittest.TestCase):
    def test_what_both_say(self):
        other = (2, ((1, 1), (1, 2), (0, 0)))
        self.assertEqual(place_tie(FRAME, PLACE, other), (1, 2))
        self.assertEqual(place_tie(FRAME, other, PLACE), (1, 1))
        self.assertEqual(place_tie(FRAME, PLACE, (0, ((0, 0), (1, 2), (1, 1)))), (0, 0))

    def test_none_of_one_stem(self):
        self.assertIsNone(place_tie(FRAME, PLACE, PLACE))
        self.assertIsNone(place_tie(FRAME, PLACE, (1, ((0, 0), (0, 0), (0, 0)))))

    def test_small_frames_gone_through_whole(self):
        for frame in SMALL[:7]:
            places = every_place(frame)
            for one in places:
                for other in places:
                    tie = place_tie(frame, one, other)
                    if one[0] == other[0]:
                        self.assertIsNone(tie)
                    else:
                        said, heard = one[1][other[0]], other[1][one[0]]
                        self.assertEqual(tie, tuple((a - b) % m for a, b, m in zip(said, heard, frame.measure)))

    def test_hangs_on_no_hue(self):
        other = Frame((2, 3), (7, 7, 7))
        self.assertEqual(place_count(FRAME), place_count(other))
        for number in range(place_count(FRAME)):
            self.assertEqual(place_at(FRAME, number), place_at(other, number))

    def test_arguments_by_name(self):
        self.assertIs(is_place(thing=PLACE, frame=FRAME), True)
        self.assertEqual(place_count(frame=FRAME), 108)
        self.assertEqual(place_number(place=PLACE, frame=FRAME), 67)
        self.assertEqual(place_at(number=67, frame=FRAME), PLACE)
        self.assertEqual(place_tie(other=(0, ((0, 0), (0, 0), (0, 0))), one=PLACE, frame=FRAME), (1, 2))


if __name__ == "__main__":
    unittest.main()
