"""Points 2, 3 (e) and 15: turnings done any number of times."""

import math
import unittest

from wholeturn.frames import Frame
from wholeturn.times import times_to, turn_times, turning_order
from wholeturn.turnings import is_turning, lead_place, put_behind, still_turning, turned_back
from tests.things import HUGE, every_place, every_turning, mixed_place, mixed_turning, raw_ring

FRAME = Frame((3,), (0, 0, 1))
TURNING = ((1, 0, 2), ((), ((1,),), ((2,), (0,))))
SMALL = [
    Frame((2,), (0, 0)), Frame((2,), (0, 1)), Frame((3,), (4, 4)), Frame((2, 2), (0, 0)), Frame((2,), (0, 0, 0)),
    Frame((3,), (0, 1, 0)), Frame((4,), (0, 0)),
]
SIXTEEN = Frame((2, 3, 5), (0,) * 16)
# Stems go round by four, five and seven.
LONG = (1, 2, 3, 0, 5, 6, 7, 8, 4, 10, 11, 12, 13, 14, 15, 9)


def long_turning():
    return (LONG, mixed_turning(SIXTEEN, 2)[1])


def done_often(frame, turning):
    """The still turning, the turning, the turning twice and so on, as long as they are unlike, put one by one."""
    done = [still_turning(frame)]
    while True:
        more = put_behind(frame, done[-1], turning)
        if more == done[0]:
            return done
        done.append(more)


class TestTurnTimes(unittest.TestCase):
    def test_written_out(self):
        self.assertEqual(turn_times(FRAME, TURNING, 0), ((0, 1, 2), ((), ((0,),), ((0,), (0,)))))
        self.assertEqual(turn_times(FRAME, TURNING, 1), TURNING)
        self.assertEqual(turn_times(FRAME, TURNING, 2), ((0, 1, 2), ((), ((2,),), ((2,), (2,)))))
        self.assertEqual(turn_times(FRAME, TURNING, 3), ((1, 0, 2), ((), ((0,),), ((1,), (2,)))))
        self.assertEqual(turn_times(FRAME, TURNING, -1), ((1, 0, 2), ((), ((2,),), ((0,), (1,)))))

    def test_small_frames_gone_through_whole(self):
        for frame in SMALL:
            for turning in every_turning(frame):
                done = done_often(frame, turning)
                self.assertEqual(turning_order(frame, turning), len(done))
                for times in range(-len(done) - 2, 2 * len(done) + 3):
                    self.assertEqual(turn_times(frame, turning, times), done[times % len(done)])

    def test_below_nought_is_turned_back(self):
        for frame in SMALL:
            for turning in every_turning(frame):
                back = turned_back(frame, turning)
                self.assertEqual(turn_times(frame, turning, -1), back)
                for times in [1, 2, 3, 5, HUGE]:
                    self.assertEqual(turn_times(frame, turning, -times), turn_times(frame, back, times))

    def test_two_hundred_figures(self):
        self.assertEqual(len(str(HUGE)), 200)
        for frame in SMALL:
            for turning in every_turning(frame):
                done = done_often(frame, turning)
                for times in [HUGE, -HUGE, HUGE + 1, 10 ** 200 - 1, 1 - 10 ** 200]:
                    self.assertEqual(turn_times(frame, turning, times), done[times % len(done)])

    def test_sixteen_stems(self):
        turning = long_turning()
        done = done_often(SIXTEEN, turning)
        self.assertEqual(turning_order(SIXTEEN, turning), len(done))
        self.assertEqual(len(done) % 140, 0)
        self.assertGreater(len(done), 140)
        for times in [0, 1, -1, 7, 139, 140, len(done) - 1, len(done), -len(done), HUGE, -HUGE]:
            told = turn_times(SIXTEEN, turning, times)
            self.assertIs(is_turning(SIXTEEN, told), True)
            self.assertEqual(told, done[times % len(done)])

    def test_times_put_together(self):
        turning = mixed_turning(SIXTEEN, 7)
        for one, other in [(3, 4), (-3, 3), (HUGE, -1), (-HUGE, 2 * 10 ** 199)]:
            both = put_behind(SIXTEEN, turn_times(SIXTEEN, turning, one), turn_times(SIXTEEN, turning, other))
            self.assertEqual(turn_times(SIXTEEN, turning, one + other), both)


class TestTurningOrder(unittest.TestCase):
    def test_written_out(self):
        self.assertEqual(turning_order(FRAME, still_turning(FRAME)), 1)
        self.assertEqual(turning_order(FRAME, TURNING), 6)
        self.assertEqual(turning_order(FRAME, ((1, 0, 2), ((), ((0,),), ((0,), (0,))))), 2)
        self.assertEqual(turning_order(FRAME, ((1, 0, 2), ((), ((0,),), ((1,), (2,))))), 2)
        self.assertEqual(turning_order(FRAME, ((0, 1, 2), ((), ((0,),), ((1,), (2,))))), 3)
        self.assertEqual(turning_order(Frame((2, 5), (0, 1)), ((0, 1), ((), ((1, 3),)))), 10)

    def test_stems_alone(self):
        even = still_turning(SIXTEEN)[1]
        self.assertEqual(turning_order(SIXTEEN, (LONG, even)), math.lcm(4, 5, 7))
        self.assertEqual(turning_order(SIXTEEN, (tuple(range(1, 16)) + (0,), even)), 16)

    def test_the_order_is_still_and_nothing_less_is(self):
        for seed in range(4):
            turning = mixed_turning(SIXTEEN, seed)
            order = turning_order(SIXTEEN, turning)
            self.assertIs(order.__class__, int)
            self.assertEqual(turn_times(SIXTEEN, turning, order), still_turning(SIXTEEN))
            for prime in [2, 3, 5, 7, 11, 13]:
                if order % prime == 0:
                    self.assertNotEqual(turn_times(SIXTEEN, turning, order // prime), still_turning(SIXTEEN))


class TestTimesTo(unittest.TestCase):
    def test_written_out(self):
        place = (0, ((0,), (1,), (2,)))
        self.assertEqual(times_to(FRAME, TURNING, place, place), 0)
        self.assertEqual(times_to(FRAME, TURNING, place, (1, ((2,), (0,), (1,)))), 1)
        self.assertEqual(times_to(FRAME, TURNING, (1, ((2,), (0,), (1,))), place), 5)
        self.assertIs(times_to(FRAME, TURNING, place, (2, ((0,), (0,), (0,)))), None)
        self.assertEqual(times_to(FRAME, TURNING, place, (0, ((0,), (2,), (0,)))), 4)
        self.assertIs(times_to(FRAME, TURNING, place, (0, ((0,), (1,), (1,)))), None)

    def test_small_frames_gone_through_whole(self):
        found = set()
        for frame in SMALL:
            places = every_place(frame)
            for turning in every_turning(frame)[::3]:
                for place in places:
                    there = raw_ring(frame, turning, place)
                    for other in places:
                        times = there.index(other) if other in there else None
                        self.assertEqual(times_to(frame, turning, place, other), times)
                        found.add(times)
        self.assertIn(None, found)
        self.assertIn(5, found)

    def test_sixteen_stems(self):
        turning = long_turning()
        place = mixed_place(SIXTEEN, 0, 3)
        there = raw_ring(SIXTEEN, turning, place)
        self.assertGreater(len(there), 139)
        for times in [0, 1, 17, len(there) - 1]:
            self.assertEqual(times_to(SIXTEEN, turning, place, there[times]), times)
            self.assertEqual(lead_place(SIXTEEN, turn_times(SIXTEEN, turning, times), place), there[times])
        self.assertIs(times_to(SIXTEEN, turning, place, mixed_place(SIXTEEN, 4, 3)), None)
        self.assertIs(times_to(SIXTEEN, turning, place, (1, ((0, 0, 0),) * 16)), None)

    def test_by_the_still_turning(self):
        for frame in SMALL:
            places = every_place(frame)
            for place in places:
                for other in places:
                    times = times_to(frame, still_turning(frame), place, other)
                    self.assertEqual(times, 0 if place == other else None)

    def test_arguments_by_name_and_asked_again(self):
        place, other = (0, ((0,), (1,), (2,))), (1, ((2,), (0,), (1,)))
        for step in range(2):
            self.assertEqual(turn_times(times=1, turning=TURNING, frame=FRAME), TURNING)
            self.assertEqual(turning_order(turning=TURNING, frame=FRAME), 6)
            self.assertEqual(times_to(other=other, one=place, turning=TURNING, frame=FRAME), 1)


if __name__ == "__main__":
    unittest.main()
