"""Points 2, 3 (e) and 16: the rings of a turning."""

import collections
import unittest

from wholeturn.frames import Frame
from wholeturn.places import is_place, place_count
from wholeturn.rings import least_on_ring, ring_counts, stays
from wholeturn.times import turn_times, turning_order
from wholeturn.turnings import still_turning
from tests.things import HUGE, every_place, every_turning, mixed_place, mixed_turning, raw_led, raw_ring

FRAME = Frame((3,), (0, 0, 1))
TURNING = ((1, 0, 2), ((), ((1,),), ((2,), (0,))))
SMALL = [
    Frame((2,), (0, 0)), Frame((2,), (0, 1)), Frame((3,), (4, 4)), Frame((2, 2), (0, 0)), Frame((2,), (0, 0, 0)),
    Frame((3,), (0, 1, 0)), Frame((4,), (0, 0)), Frame((2,), (0, 1, 1, 1)),
]
SIXTEEN = Frame((2, 3, 5), (0,) * 16)
EVEN = still_turning(SIXTEEN)[1]
# Stems go round by two and by three; ten stay.
SHORT = (1, 0, 3, 4, 2) + tuple(range(5, 16))
NUMBERS = [HUGE, -HUGE, HUGE + 1, 10 ** 200 - 1, 1 - 10 ** 200]


def turnings_of_small_frames():
    for frame in SMALL:
        for turning in every_turning(frame):
            yield frame, turning


def moved(frame, stem, lesser, tie):
    """The even table of the frame with one other tie."""
    rows = [list(row) for row in still_turning(frame)[1]]
    rows[stem][lesser] = tie
    return tuple(tuple(row) for row in rows)


class TestLeastOnRing(unittest.TestCase):
    def test_written_out(self):
        # Six places: to (1, 2 0 1), to (0, 0 0 1), (1, 1 0 0), (0, 0 2 0), (1, 0 0 2), and back.
        place = (0, ((0,), (1,), (2,)))
        self.assertEqual(len(raw_ring(FRAME, TURNING, place)), 6)
        self.assertEqual(least_on_ring(FRAME, TURNING, place), (0, ((0,), (0,), (1,))))
        self.assertEqual(least_on_ring(FRAME, TURNING, (1, ((2,), (0,), (1,)))), (0, ((0,), (0,), (1,))))
        self.assertEqual(least_on_ring(FRAME, still_turning(FRAME), place), place)

    def test_small_frames_gone_through_whole(self):
        for frame, turning in turnings_of_small_frames():
            for place in every_place(frame):
                self.assertEqual(least_on_ring(frame, turning, place), min(raw_ring(frame, turning, place)))

    def test_sixteen_stems(self):
        for seed in range(4):
            turning = mixed_turning(SIXTEEN, seed)
            there = raw_ring(SIXTEEN, turning, mixed_place(SIXTEEN, 3, seed))
            for place in [there[0], there[-1], there[len(there) // 2]]:
                told = least_on_ring(SIXTEEN, turning, place)
                self.assertEqual(told, min(there))
                self.assertIs(is_place(SIXTEEN, told), True)


class TestStays(unittest.TestCase):
    def test_written_out(self):
        self.assertEqual(stays(FRAME, still_turning(FRAME)), 27)
        # Only stem 2 is led to itself, and what it says of stems 0 and 1 comes round moved by 2.
        self.assertEqual(stays(FRAME, TURNING), 0)
        self.assertEqual(stays(FRAME, ((1, 0, 2), ((), ((1,),), ((2,), (1,))))), 3)
        self.assertEqual(stays(FRAME, ((0, 1, 2), ((), ((1,),), ((0,), (0,))))), 9)
        self.assertEqual(stays(FRAME, TURNING, 0), 27)
        self.assertEqual(stays(FRAME, TURNING, 2), 0)
        self.assertEqual(stays(FRAME, TURNING, 6), 27)

    def test_small_frames_gone_through_whole(self):
        found = set()
        for frame, turning in turnings_of_small_frames():
            places = every_place(frame)
            rings = [len(raw_ring(frame, turning, place)) for place in places]
            order = turning_order(frame, turning)
            self.assertEqual(stays(frame, turning), sum(raw_led(frame, turning, place) == place for place in places))
            for times in [*range(-order - 1, order + 2), *NUMBERS]:
                many = sum(times % length == 0 for length in rings)
                self.assertEqual(stays(frame, turning, times), many)
                found.add(many)
        self.assertGreater(len(found), 8)

    def test_named_edges(self):
        for frame, turning in turnings_of_small_frames():
            whole = len(every_place(frame))
            order = turning_order(frame, turning)
            self.assertEqual(stays(frame, turning, 0), whole)
            self.assertEqual(stays(frame, turning, order), whole)
            self.assertEqual(stays(frame, turning, -order), whole)
            self.assertEqual(stays(frame, turning, -1), stays(frame, turning, 1))
            self.assertEqual(stays(frame, turning), stays(frame, turning, 1))

    def test_far_too_many_to_go_through(self):
        whole = 16 * 30 ** 15
        self.assertEqual(stays(SIXTEEN, still_turning(SIXTEEN)), whole)
        for times in [0, 6, -6, HUGE // 6 * 6]:
            self.assertEqual(stays(SIXTEEN, (SHORT, EVEN), times), whole)
        # Eleven stems stay, and beside each one ten others and two rings.
        self.assertEqual(stays(SIXTEEN, (SHORT, EVEN)), 11 * 30 ** 12)
        self.assertEqual(stays(SIXTEEN, (SHORT, EVEN), -1), 11 * 30 ** 12)
        self.assertEqual(stays(SIXTEEN, (SHORT, EVEN), 2), 13 * 30 ** 13)
        self.assertEqual(stays(SIXTEEN, (SHORT, EVEN), 3), 14 * 30 ** 14)
        self.assertEqual(stays(SIXTEEN, (tuple(range(1, 16)) + (0,), EVEN)), 0)
        one = (tuple(range(16)), moved(SIXTEEN, 9, 4, (1, 0, 1)))
        self.assertEqual(stays(SIXTEEN, one), 14 * 30 ** 15)
        self.assertEqual(stays(SIXTEEN, one, 10), whole)
        self.assertEqual(stays(SIXTEEN, one, 5), 14 * 30 ** 15)
        self.assertEqual(stays(SIXTEEN, one, HUGE), 14 * 30 ** 15)
        self.assertEqual(stays(SIXTEEN, one, 10 ** 199), whole)

    def test_two_hundred_figures_by_the_orders_rest(self):
        for seed in range(4):
            turning = mixed_turning(SIXTEEN, seed)
            for times in NUMBERS:
                rest = times % turning_order(SIXTEEN, turning)
                self.assertEqual(stays(SIXTEEN, turning, times), stays(SIXTEEN, turning, rest))
                self.assertEqual(stays(SIXTEEN, turning, times), stays(SIXTEEN, turn_times(SIXTEEN, turning, times)))


class TestRingCounts(unittest.TestCase):
    def test_written_out(self):
        self.assertEqual(ring_counts(FRAME, still_turning(FRAME)), ((1, 27),))
        self.assertEqual(ring_counts(FRAME, TURNING), ((3, 1), (6, 4)))
        self.assertEqual(ring_counts(FRAME, ((0, 1, 2), ((), ((1,),), ((0,), (0,))))), ((1, 9), (3, 6)))

    def test_small_frames_gone_through_whole(self):
        lengths = set()
        for frame, turning in turnings_of_small_frames():
            many = collections.Counter(len(raw_ring(frame, turning, place)) for place in every_place(frame))
            counts = tuple(sorted((length, many[length] // length) for length in many))
            self.assertEqual(ring_counts(frame, turning), counts)
            lengths.update(many)
        self.assertLessEqual({1, 2, 3, 4, 6}, lengths)

    def test_far_too_many_to_go_through(self):
        self.assertEqual(ring_counts(SIXTEEN, still_turning(SIXTEEN)), ((1, 16 * 30 ** 15),))
        one = 11 * 30 ** 12
        two = 13 * 30 ** 13 - one
        three = 14 * 30 ** 14 - one
        six = 16 * 30 ** 15 - one - two - three
        counts = ((1, one), (2, two // 2), (3, three // 3), (6, six // 6))
        self.assertEqual(ring_counts(SIXTEEN, (SHORT, EVEN)), counts)
        moves = (tuple(range(16)), moved(SIXTEEN, 9, 4, (1, 0, 1)))
        self.assertEqual(ring_counts(SIXTEEN, moves), ((1, 14 * 30 ** 15), (10, 2 * 30 ** 15 // 10)))

    def test_all_places_are_on_rings(self):
        for seed in range(6):
            turning = mixed_turning(SIXTEEN, seed)
            counts = ring_counts(SIXTEEN, turning)
            self.assertEqual(sum(length * many for length, many in counts), place_count(SIXTEEN))
            self.assertEqual(list(counts), sorted(counts))
            for length, many in counts:
                self.assertGreater(many, 0)
                self.assertEqual(turning_order(SIXTEEN, turning) % length, 0)
                on_these = sum(a * b for a, b in counts if length % a == 0)
                self.assertEqual(stays(SIXTEEN, turning, length), on_these)

    def test_kinds_told_by_name_and_asked_again(self):
        place = (0, ((0,), (1,), (2,)))
        for step in range(2):
            self.assertEqual(least_on_ring(place=place, turning=TURNING, frame=FRAME), (0, ((0,), (0,), (1,))))
            self.assertEqual(stays(times=6, turning=TURNING, frame=FRAME), 27)
            self.assertEqual(stays(turning=TURNING, frame=FRAME), 0)
            self.assertEqual(ring_counts(turning=TURNING, frame=FRAME), ((3, 1), (6, 4)))
        self.assertIs(stays(FRAME, TURNING).__class__, int)


if __name__ == "__main__":
    unittest.main()
