"""Point 4: measures and ties."""

import copy
import itertools
import math
import unittest

from wholeturn.ties import (
    all_ties, is_measure, is_tie, nought, tie_count, tie_less, tie_order, tie_sum, tie_times,
)
from tests.things import HUGE, NO_NUMBERS, THINGS, every_tie, nested, spoiled

MEASURES = [
    numbers for many in (1, 2, 3) for numbers in itertools.product(range(2, 6), repeat=many)
    if math.prod(numbers) <= 30
]


class TestMeasures(unittest.TestCase):
    def test_all_measures_and_their_neighbours(self):
        for many in range(5):
            for numbers in itertools.product(range(0, 8), repeat=many):
                told = is_measure(numbers)
                self.assertIs(told, numbers in MEASURES, numbers)

    def test_named_edges(self):
        for measure in [(2,), (5,), (2, 2), (5, 5), (2, 2, 2), (2, 3, 5), (5, 3, 2), (3, 5, 2), (3, 3, 3), (2, 3, 4)]:
            self.assertIs(is_measure(measure), True, measure)
        # Three numbers can't come to 31, so 32 is the least product above 30.
        for measure in [(), (1,), (6,), (0,), (-2,), (4, 4, 2), (2, 4, 4), (3, 3, 4), (2, 2, 2, 2), (1, 2), (2, 1), (30,)]:
            self.assertIs(is_measure(measure), False, measure)

    def test_wrong_things(self):
        # (2,) and the like are measures, so those of THINGS with a lone number in bounds are left to other tests.
        for thing in [thing for thing in THINGS if thing != (5,)]:
            self.assertIs(is_measure(thing), False, thing)
        for wrong in NO_NUMBERS + [HUGE, -HUGE, -3, 0, 1, 6]:
            self.assertIs(is_measure((wrong,)), False, wrong)
            self.assertIs(is_measure((2, wrong)), False, wrong)
            self.assertIs(is_measure((wrong, 2, 3)), False, wrong)
        for thing in [[2], [2, 3], "23", {2: 3}, ((2, 3),), ([2, 3],), 2, (2, (3,)), (True, 2), (2, 3, 5, 1)]:
            self.assertIs(is_measure(thing), False, thing)
        self.assertIs(is_measure((2,) * 50), False)

    def test_nothing_is_changed(self):
        for thing in THINGS:
            kept = copy.deepcopy(thing)
            is_measure(thing)
            is_tie((2, 3), thing)
            self.assertEqual(thing, kept)
            self.assertEqual(repr(thing), repr(kept))


class TestTies(unittest.TestCase):
    def test_is_tie(self):
        for measure in MEASURES:
            for many in range(1, 5):
                for tie in itertools.product(range(-1, 6), repeat=many):
                    so = many == len(measure) and all(0 <= n < m for n, m in zip(tie, measure))
                    self.assertIs(is_tie(measure, tie), so, (measure, tie))

    def test_wrong_things(self):
        for thing in THINGS:
            self.assertIs(is_tie((2, 3), thing), False, thing)
            if thing != (5,):
                self.assertIs(is_tie((5,), thing), False, thing)
        for measure, tie in [((5,), (1,)), ((2, 3), (1, 2)), ((2, 3, 5), (0, 0, 0)), ((2, 3, 5), (1, 2, 4))]:
            self.assertIs(is_tie(measure, tie), True)
            for wrong in spoiled(tie):
                self.assertIs(is_tie(measure, wrong), False, (measure, wrong))
        self.assertIs(is_tie((2,), (True,)), False)
        self.assertIs(is_tie((2,), (False,)), False)
        self.assertIs(is_tie((2,), [1]), False)
        self.assertIs(is_tie((2,), ()), False)
        self.assertIs(is_tie((2,), nested(tuple, 30)), False)

    def test_counts_and_all_ties(self):
        for measure in MEASURES:
            self.assertEqual(tie_count(measure), math.prod(measure))
            self.assertEqual(all_ties(measure), tuple(sorted(every_tie(measure))))
            self.assertEqual(nought(measure), (0,) * len(measure))
            self.assertTrue(all(is_tie(measure, tie) for tie in all_ties(measure)))

    def test_all_ties_written_out(self):
        self.assertEqual(all_ties((2, 3)), ((0, 0), (0, 1), (0, 2), (1, 0), (1, 1), (1, 2)))
        self.assertEqual(all_ties((5,)), ((0,), (1,), (2,), (3,), (4,)))
        self.assertEqual(tie_count((2, 3, 5)), 30)
        self.assertEqual(nought((2, 3, 5)), (0, 0, 0))

    def test_sum_and_less(self):
        self.assertEqual(tie_sum((2, 3, 5), (1, 2, 3), (1, 2, 3)), (0, 1, 1))
        self.assertEqual(tie_less((2, 3, 5), (0, 1, 1), (1, 2, 4)), (1, 2, 2))
        self.assertEqual(tie_less((5,), (4,), (1,)), (3,))
        for measure in MEASURES:
            ties = every_tie(measure)
            for one, other in itertools.product(ties, repeat=2):
                both = tie_sum(measure, one, other)
                self.assertEqual(both, tuple((a + b) % m for a, b, m in zip(one, other, measure)))
                self.assertTrue(is_tie(measure, tie_less(measure, one, other)))
                self.assertEqual(tie_less(measure, both, other), one)

    def test_times(self):
        tie = (1, 2, 4)
        self.assertEqual(tie_times((2, 3, 5), tie, 0), (0, 0, 0))
        self.assertEqual(tie_times((2, 3, 5), tie, 1), tie)
        self.assertEqual(tie_times((2, 3, 5), tie, -1), (1, 1, 1))
        self.assertEqual(tie_times((2, 3, 5), tie, 7), (1, 2, 3))
        self.assertEqual(len(str(HUGE)), 200)
        self.assertEqual(tie_times((2, 3, 5), tie, HUGE), (1, 1, 3))
        self.assertEqual(tie_times((2, 3, 5), tie, -HUGE), (1, 2, 2))
        self.assertEqual(tie_times((5,), (3,), 10 ** 200 - 1), (2,))

    def test_times_are_sums(self):
        for measure in MEASURES:
            for tie in every_tie(measure):
                up = down = nought(measure)
                for times in range(8):
                    self.assertEqual(tie_times(measure, tie, times), up)
                    self.assertEqual(tie_times(measure, tie, -times), down)
                    up = tie_sum(measure, up, tie)
                    down = tie_less(measure, down, tie)

    def test_order(self):
        self.assertEqual(tie_order((2, 3, 5), (0, 0, 0)), 1)
        self.assertEqual(tie_order((2, 3, 5), (1, 1, 1)), 30)
        self.assertEqual(tie_order((4,), (2,)), 2)
        self.assertEqual(tie_order((4, 4), (2, 3)), 4)
        for measure in MEASURES:
            for tie in every_tie(measure):
                orders = [limit // math.gcd(limit, number) for number, limit in zip(tie, measure)]
                self.assertEqual(tie_order(measure, tie), math.lcm(*orders))

    def test_whole_numbers_are_told(self):
        told = [tie_count((2, 3)), tie_order((2, 3), (1, 1)), *tie_sum((2,), (1,), (1,)), *tie_times((2,), (1,), 1)]
        self.assertEqual([number.__class__ for number in told], [int] * 4)

    def test_arguments_by_name(self):
        self.assertIs(is_measure(thing=(2,)), True)
        self.assertIs(is_tie(thing=(1,), measure=(2,)), True)
        self.assertEqual(tie_count(measure=(2, 2)), 4)
        self.assertEqual(all_ties(measure=(2,)), ((0,), (1,)))
        self.assertEqual(nought(measure=(2,)), (0,))
        self.assertEqual(tie_sum(other=(2,), one=(1,), measure=(4,)), (3,))
        self.assertEqual(tie_less(other=(2,), one=(1,), measure=(4,)), (3,))
        self.assertEqual(tie_times(times=3, tie=(3,), measure=(4,)), (1,))
        self.assertEqual(tie_order(tie=(3,), measure=(4,)), 4)


if __name__ == "__main__":
    unittest.main()
