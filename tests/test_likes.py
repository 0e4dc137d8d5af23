"""Points 2, 3 (d) and 17: rows of places that are like."""

import itertools
import math
import random
import unittest

from wholeturn.frames import Frame
from wholeturn.likes import are_like, least_like, pair_kinds
from wholeturn.places import is_place
from tests.things import every_place, mixed_place, mixed_turning, nearly, raw_led, raw_maps

FRAME = Frame((3,), (1, 0, 0, 0))
SMALL = [
    Frame((2,), (0, 0)), Frame((2,), (0, 1)), Frame((3,), (4, 4)), Frame((2, 2), (0, 0)), Frame((2,), (0, 0, 0)),
    Frame((2,), (0, 1, 0)), Frame((2,), (1, 0, 0)), Frame((3,), (0, 1)),
]
SAMPLED = SMALL + [Frame((3,), (0, 0, 0)), Frame((2, 2), (0, 0, 1)), Frame((2,), (0, 1, 1, 0)), Frame((2,), (0,) * 4)]
SIXTEEN = Frame((2, 3, 5), (0, 1, 1, 0) * 4)


def raw_least(maps, row):
    return min(tuple(led[place] for place in row) for turning, led in maps)


def sampled_rows(frame, many):
    """So many rows of one to eight places, most of them of few stems, some with alike ones."""
    chance = random.Random(f"{frame.measure} {frame.hues}")
    places = sorted(every_place(frame))
    for step in range(many):
        stem = chance.randrange(len(frame.hues))
        near = [place for place in places if place[0] == stem]
        yield tuple(chance.choice(chance.choice([near, places])) for row in range(1 + step % 8))


class TestLeastLike(unittest.TestCase):
    def test_written_out(self):
        one = (2, ((1,), (2,), (0,), (1,)))
        self.assertEqual(least_like(FRAME, (one,)), ((1, ((0,),) * 4),))
        # Beside the same place once more nothing else comes, and one of another stem says its tie to it: 2 less 1.
        self.assertEqual(least_like(FRAME, (one, one)), ((1, ((0,),) * 4),) * 2)
        other = (3, ((1,), (0,), (2,), (0,)))
        self.assertEqual(least_like(FRAME, (one, other)), ((1, ((0,),) * 4), (2, ((0,), (1,), (0,), (0,)))))
        # Of the same stem it differs by 2 at stem 0, by 0 at stem 1, by 1 at stem 3.
        near = (2, ((0,), (2,), (0,), (2,)))
        self.assertEqual(least_like(FRAME, (one, near)), ((1, ((0,),) * 4), (1, ((2,), (0,), (0,), (1,)))))
        # The stem of which nothing more was said is now stem 2, the other one stem 3, and so it is from there on.
        last = (3, ((0,), (0,), (0,), (0,)))
        least = ((1, ((0,),) * 4), (1, ((2,), (0,), (0,), (1,))), (3, ((0,), (2,), (0,), (0,))))
        self.assertEqual(least_like(FRAME, (one, near, last)), least)

    def test_rows_of_two_against_all_turnings(self):
        for frame in SMALL:
            maps = raw_maps(frame)
            for row in itertools.product(every_place(frame), repeat=2):
                self.assertEqual(least_like(frame, row), raw_least(maps, row), row)

    def test_rows_of_one_against_all_turnings(self):
        for frame in SAMPLED:
            maps = raw_maps(frame)
            for place in every_place(frame):
                self.assertEqual(least_like(frame, (place,)), raw_least(maps, (place,)))

    def test_longer_rows_against_all_turnings(self):
        for frame in SAMPLED:
            maps = raw_maps(frame)
            for row in sampled_rows(frame, 80):
                self.assertEqual(least_like(frame, row), raw_least(maps, row), row)

    def test_sixteen_stems(self):
        chance = random.Random(3)
        for many in [1, 2, 5, 8, 8, 8]:
            seeds = [(chance.choice([2, 5, 11]), chance.randrange(10 ** 6)) for step in range(many)]
            row = tuple(mixed_place(SIXTEEN, stem, seed) for stem, seed in seeds)
            row = row[:-1] + (row[0],) if many == 5 else row
            least = least_like(SIXTEEN, row)
            self.assertIs(least.__class__, tuple)
            self.assertEqual(len(least), many)
            self.assertTrue(all(is_place(SIXTEEN, place) for place in least))
            self.assertEqual(least_like(SIXTEEN, least), least)
            self.assertEqual(least[0], (1 if seeds[0][0] in (2, 5) else 0, ((0, 0, 0),) * 16))
            for seed in range(6):
                led = tuple(raw_led(SIXTEEN, mixed_turning(SIXTEEN, seed), place) for place in row)
                self.assertEqual(least_like(SIXTEEN, led), least)
                self.assertLessEqual(least, led)
                self.assertIs(are_like(SIXTEEN, row, led), True)
                wrong = led[:-1] + (nearly(SIXTEEN, chance, led[-1], led),)
                if many == 5 and wrong != led:
                    self.assertIs(are_like(SIXTEEN, row, wrong), False)


class TestAreLike(unittest.TestCase):
    def test_rows_of_two_against_all_turnings(self):
        for frame in SMALL:
            maps = raw_maps(frame)
            rows = list(itertools.product(every_place(frame), repeat=2))
            for row in rows[::3]:
                like = {tuple(led[place] for place in row) for turning, led in maps}
                for other in rows:
                    self.assertIs(are_like(frame, row, other), other in like, (row, other))

    def test_longer_rows_against_all_turnings(self):
        found = set()
        for frame in SAMPLED:
            maps = raw_maps(frame)
            chance = random.Random(7)
            places = sorted(every_place(frame))
            for row in sampled_rows(frame, 80):
                led = chance.choice(maps)[1]
                other = [led[place] for place in row]
                at = chance.randrange(len(row))
                other[at] = chance.choice([other[at], nearly(frame, chance, other[at], places)])
                so = any(tuple(led[place] for place in row) == tuple(other) for turning, led in maps)
                self.assertIs(are_like(frame, row, tuple(other)), so)
                found.add((len(row), so))
        for many in range(2, 9):
            self.assertIn((many, True), found)
            self.assertIn((many, False), found)

    def test_unlike_lengths(self):
        for frame in SMALL:
            for row in sampled_rows(frame, 40):
                for many in range(1, 9):
                    other = (row * 8)[:many]
                    self.assertIs(are_like(frame, row, other), many == len(row))
                    self.assertIs(are_like(frame, other, row), many == len(row))

    def test_turned_about(self):
        one, other = (0, ((0,), (0,), (0,), (0,))), (1, ((1,), (0,), (0,), (0,)))
        self.assertIs(are_like(FRAME, (one, other), (one, other)), True)
        self.assertIs(are_like(FRAME, (one, other), (other, one)), False)
        alike = Frame((3,), (0, 0))
        one, other = (0, ((0,), (0,))), (1, ((0,), (0,)))
        self.assertIs(are_like(alike, (one, other), (other, one)), True)
        other = (1, ((1,), (0,)))
        self.assertIs(are_like(alike, (one, other), (other, one)), False)
        two = Frame((2,), (0, 0))
        self.assertIs(are_like(two, (one, other), (other, one)), True)


class TestPairKinds(unittest.TestCase):
    def test_against_all_turnings(self):
        for frame in SAMPLED:
            maps = raw_maps(frame)
            rows = itertools.permutations(every_place(frame), 2)
            self.assertEqual(pair_kinds(frame), len({raw_least(maps, row) for row in rows}), frame.hues)

    def test_written_out(self):
        # Two hues, three ties, two orders; and of each stem two differences.
        self.assertEqual(pair_kinds(Frame((3,), (0, 1))), 6 + 2 + 2)
        self.assertEqual(pair_kinds(Frame((3,), (0, 0))), 3 + 2)
        # Of the one hue three ties and six pairs of differences but one; of stem 0 ten threes but one.
        self.assertEqual(pair_kinds(FRAME), 3 * 3 + (3 * 6 - 1) + (10 - 1))

    def test_sixteen_stems(self):
        alike = Frame((2, 3, 5), (4,) * 16)
        self.assertEqual(pair_kinds(alike), 30 + math.comb(15 + 29, 15) - 1)
        eights = math.comb(8 + 29, 8) * math.comb(7 + 29, 7) - 1
        self.assertEqual(pair_kinds(SIXTEEN), 4 * 30 + 2 * eights)
        unlike = Frame((2, 5), tuple(range(10)))
        self.assertEqual(pair_kinds(unlike), 90 * 10 + 10 * (10 ** 9 - 1))

    def test_arguments_by_name_and_asked_again(self):
        row = ((2, ((1,), (2,), (0,), (1,))),)
        for step in range(2):
            self.assertEqual(least_like(places=row, frame=FRAME), ((1, ((0,),) * 4),))
            self.assertIs(are_like(others=row, places=row, frame=FRAME), True)
            self.assertEqual(pair_kinds(frame=FRAME), 35)
        self.assertIs(pair_kinds(FRAME).__class__, int)


if __name__ == "__main__":
    unittest.main()
