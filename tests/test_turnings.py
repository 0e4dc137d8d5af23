"""Points 3 (a) and 9: turnings."""

import copy
import itertools
import math
import unittest

from wholeturn.frames import Frame
from wholeturn.places import is_place, place_tie
from wholeturn.turnings import is_turning, lead_place, put_behind, still_turning, turned_back, turning_count
from tests.things import (
    THINGS, every_place, every_turning, mixed_place, mixed_table, mixed_turning, raw_tie, spoiled,
)

SMALL = [
    Frame((2,), (0, 0)), Frame((2,), (0, 1)), Frame((3,), (4, 4)), Frame((5,), (0, 0)), Frame((2, 2), (0, 0)),
    Frame((2,), (0, 0, 0)), Frame((2,), (0, 1, 0)), Frame((2,), (1, 0, 0)), Frame((2,), (0, 1, 2)),
]
SIXTEEN = Frame((2, 3, 5), (0, 1, 1, 0) * 4)
FRAME = Frame((3,), (0, 0, 1))
TURNING = ((1, 0, 2), ((), ((1,),), ((2,), (0,))))


def may_go(frame, pairs, place, image):
    if frame.hues[place[0]] != frame.hues[image[0]]:
        return False
    for one, other in pairs:
        if other == image or raw_tie(frame, one, place) != raw_tie(frame, other, image):
            return False
        if (one[0] == place[0]) != (other[0] == image[0]):
            return False
    return True


def maps_that_keep(frame):
    """All one-to-one maps of the whole that keep hues, ties and the oneness of stems, found by trying."""
    places = every_place(frame)
    begun = [()]
    for place in places:
        begun = [
            pairs + ((place, image),) for pairs in begun for image in places if may_go(frame, pairs, place, image)
        ]
    return begun


class TestIsTurning(unittest.TestCase):
    def test_small_frames_gone_through_whole(self):
        for frame in SMALL:
            for turning in every_turning(frame):
                self.assertIs(is_turning(frame, turning), True)

    def test_leads(self):
        even = TURNING[1]
        for leads in itertools.product(range(-1, 4), repeat=3):
            so = leads in [(0, 1, 2), (1, 0, 2)]
            self.assertIs(is_turning(FRAME, (leads, even)), so, leads)
        alike = Frame((3,), (5, 5, 5))
        for leads in itertools.product(range(-1, 4), repeat=3):
            self.assertIs(is_turning(alike, (leads, even)), sorted(leads) == [0, 1, 2], leads)

    def test_sixteen_stems(self):
        for seed in range(6):
            self.assertIs(is_turning(SIXTEEN, mixed_turning(SIXTEEN, seed)), True)
        moves = mixed_table(SIXTEEN, 1)
        still = tuple(range(16))
        self.assertIs(is_turning(SIXTEEN, (still[1:] + still[:1], moves)), False)
        self.assertIs(is_turning(SIXTEEN, (still[:15] + (12,), moves)), False)
        self.assertIs(is_turning(SIXTEEN, (still[:12] + (15, 13, 14, 12), moves)), True)

    def test_of_another_frame(self):
        self.assertIs(is_turning(Frame((3,), (0, 1, 1)), TURNING), False)
        self.assertIs(is_turning(Frame((2,), (0, 0, 1)), TURNING), False)
        self.assertIs(is_turning(Frame((3,), (0, 0)), TURNING), False)
        self.assertIs(is_turning(Frame((3, 3), (0, 0, 1)), TURNING), False)

    def test_wrong_things(self):
        self.assertIs(is_turning(FRAME, TURNING), True)
        for thing in THINGS:
            self.assertIs(is_turning(FRAME, thing), False, thing)
            self.assertIs(is_turning(FRAME, (thing, TURNING[1])), False, thing)
            self.assertIs(is_turning(FRAME, (TURNING[0], thing)), False, thing)
        for wrong in spoiled(TURNING):
            kept = copy.deepcopy(wrong)
            self.assertIs(is_turning(FRAME, wrong), False, wrong)
            self.assertEqual(repr(wrong), repr(kept))
        self.assertIs(is_turning(FRAME, ((True, False, 2), TURNING[1])), False)
        self.assertIs(is_turning(FRAME, ((1, "0", 2), TURNING[1])), False)
        self.assertIs(is_turning(FRAME, (TURNING[1], TURNING[0])), False)


class TestLeading(unittest.TestCase):
    def test_written_out(self):
        self.assertEqual(lead_place(FRAME, TURNING, (1, ((2,), (0,), (1,)))), (0, ((0,), (0,), (1,))))
        self.assertEqual(lead_place(FRAME, TURNING, (0, ((0,), (1,), (2,)))), (1, ((2,), (0,), (1,))))
        self.assertEqual(lead_place(FRAME, TURNING, (2, ((1,), (2,), (0,)))), (2, ((2,), (0,), (0,))))
        self.assertEqual(turned_back(FRAME, TURNING), ((1, 0, 2), ((), ((2,),), ((0,), (1,)))))
        self.assertEqual(put_behind(FRAME, TURNING, TURNING), ((0, 1, 2), ((), ((2,),), ((2,), (2,)))))
        self.assertEqual(still_turning(FRAME), ((0, 1, 2), ((), ((0,),), ((0,), (0,)))))

    def test_order_of_put_behind(self):
        frame = Frame((3,), (0, 0, 0))
        even = ((), ((0,),), ((0,), (0,)))
        first = ((1, 2, 0), even)
        second = ((1, 0, 2), ((), ((1,),), ((0,), (0,))))
        self.assertEqual(put_behind(frame, first, second), ((0, 2, 1), ((), ((0,),), ((1,), (0,)))))
        self.assertEqual(put_behind(frame, second, first), ((2, 1, 0), ((), ((1,),), ((0,), (0,)))))

    def test_turnings_are_just_the_maps_that_keep(self):
        for frame in SMALL:
            places = every_place(frame)
            told = [
                tuple((place, lead_place(frame, turning, place)) for place in places)
                for turning in every_turning(frame)
            ]
            self.assertEqual(len(set(told)), len(told))
            self.assertEqual(sorted(told), sorted(maps_that_keep(frame)))
            self.assertEqual(turning_count(frame), len(told))

    def test_places_are_told(self):
        for frame in SMALL + [FRAME]:
            for turning in every_turning(frame):
                for place in every_place(frame):
                    led = lead_place(frame, turning, place)
                    self.assertIs(is_place(frame, led), True)
                    self.assertEqual(frame.hues[led[0]], frame.hues[place[0]])

    def test_still_turning(self):
        for frame in SMALL + [FRAME]:
            self.assertIs(is_turning(frame, still_turning(frame)), True)
            for place in every_place(frame):
                self.assertEqual(lead_place(frame, still_turning(frame), place), place)

    def test_led_there_and_back(self):
        for frame in SMALL + [FRAME]:
            for turning in every_turning(frame):
                back = turned_back(frame, turning)
                self.assertIs(is_turning(frame, back), True)
                self.assertEqual(put_behind(frame, turning, back), still_turning(frame))
                self.assertEqual(put_behind(frame, back, turning), still_turning(frame))
                for place in every_place(frame):
                    self.assertEqual(lead_place(frame, back, lead_place(frame, turning, place)), place)

    def test_one_behind_another(self):
        for frame in SMALL:
            places = every_place(frame)
            turnings = every_turning(frame)
            for first, second in itertools.product(turnings, repeat=2):
                both = put_behind(frame, first, second)
                self.assertIs(is_turning(frame, both), True)
                for place in places:
                    led = lead_place(frame, second, lead_place(frame, first, place))
                    self.assertEqual(lead_place(frame, both, place), led)

    def test_sixteen_stems(self):
        places = [mixed_place(SIXTEEN, stem, 13 * stem + seed) for stem in range(16) for seed in (0, 4)]
        first, second = mixed_turning(SIXTEEN, 1), mixed_turning(SIXTEEN, 6)
        both = put_behind(SIXTEEN, first, second)
        back = turned_back(SIXTEEN, first)
        self.assertIs(is_turning(SIXTEEN, both), True)
        self.assertNotEqual(both, put_behind(SIXTEEN, second, first))
        led = [lead_place(SIXTEEN, first, place) for place in places]
        for place, there in zip(places, led):
            self.assertIs(is_place(SIXTEEN, there), True)
            self.assertEqual(lead_place(SIXTEEN, back, there), place)
            self.assertEqual(lead_place(SIXTEEN, both, place), lead_place(SIXTEEN, second, there))
            for other, where in zip(places, led):
                self.assertEqual(place_tie(SIXTEEN, place, other), place_tie(SIXTEEN, there, where))


class TestCounts(unittest.TestCase):
    def test_small_frames_gone_through_whole(self):
        more = [FRAME, Frame((3,), (0, 0, 0)), Frame((2, 2), (0, 1, 0)), Frame((2,), (0,) * 4), Frame((2,), (3, 1, 3, 1))]
        for frame in SMALL + more:
            self.assertEqual(turning_count(frame), len(every_turning(frame)))

    def test_sixteen_stems(self):
        pairs = 30 ** 120
        self.assertEqual(turning_count(SIXTEEN), math.factorial(8) ** 2 * pairs)
        self.assertEqual(turning_count(Frame((2, 3, 5), (7,) * 16)), math.factorial(16) * pairs)
        hues = tuple(range(10)) + (0, 0, 0, 1, 1, 2)
        self.assertEqual(turning_count(Frame((2, 3, 5), hues)), 24 * 6 * 2 * pairs)

    def test_asked_again(self):
        self.assertEqual(turned_back(FRAME, TURNING), turned_back(FRAME, TURNING))
        self.assertEqual(turned_back(FRAME, turned_back(FRAME, TURNING)), TURNING)
        self.assertEqual(TURNING, ((1, 0, 2), ((), ((1,),), ((2,), (0,)))))

    def test_arguments_by_name(self):
        place = (1, ((2,), (0,), (1,)))
        self.assertIs(is_turning(thing=TURNING, frame=FRAME), True)
        self.assertEqual(still_turning(frame=FRAME)[0], (0, 1, 2))
        self.assertEqual(lead_place(place=place, turning=TURNING, frame=FRAME), (0, ((0,), (0,), (1,))))
        back = turned_back(turning=TURNING, frame=FRAME)
        self.assertEqual(put_behind(second=back, first=TURNING, frame=FRAME), still_turning(FRAME))
        self.assertEqual(turning_count(frame=FRAME), 54)


if __name__ == "__main__":
    unittest.main()
