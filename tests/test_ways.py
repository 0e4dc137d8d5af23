"""Points 2, 3 (b), 3 (c) and 13: the ways of a part."""

import copy
import itertools
import math
import random
import unittest

from wholeturn.errors import NoNumber, NoWay
from wholeturn.frames import Frame
from wholeturn.turnings import is_turning, put_behind, still_turning, turned_back, turning_count
from wholeturn.ways import image_count, least_way, way_at, way_count, way_number
from tests.things import (
    HUGE, NO_NUMBERS, every_part, every_place, every_turning, mixed_place, mixed_turning, raw_bars, raw_led, raw_maps,
    raw_part, raw_ways, sampled_parts, turned_about, twenty_rows,
)

FRAME = Frame((3,), (0, 1, 0, 0))
# Row 1 differs from row 0 by 1 at stem 0 ahead, at stem 2 behind: so stem 0 is led to stem 2, stems 2, 3 to 0, 3.
PART = (
    ((1, ((0,), (0,), (1,), (2,))), (1, ((2,), (0,), (0,), (1,)))),
    ((1, ((1,), (0,), (1,), (2,))), (1, ((2,), (0,), (1,), (1,)))),
)
LEAST = ((2, 1, 0, 3), ((), ((0,),), ((0,), (1,)), ((0,), (2,), (0,))))
BARRED = (PART[0], (PART[1][0], (1, ((0,), (0,), (1,), (1,)))))
BAR = ("count", (0, ((0,),)), 2, 1)
PLACE = (0, ((0,),) * 4)
SMALL = [
    Frame((2,), (0, 0)), Frame((2,), (0, 1)), Frame((3,), (4, 4)), Frame((2,), (0, 0, 0)), Frame((2,), (0, 1, 0)),
]
SAMPLED = [Frame((3,), (0, 0, 0)), Frame((2, 2), (0, 0, 1)), Frame((2,), (0, 0, 1, 0)), Frame((2,), (0, 0, 0, 0))]
SIXTEEN = Frame((2, 3, 5), (0, 1, 1, 0) * 4)


def parts_of_small_frames():
    """All parts of two rows at most, or of as many as there are places where these are four."""
    for frame in SMALL:
        maps = raw_maps(frame)
        for many in range(5 if len(every_place(frame)) == 4 else 3):
            for part in every_part(frame, many):
                yield frame, part, raw_ways(maps, part)


def sampled_ways():
    for frame in SAMPLED:
        maps = raw_maps(frame)
        for part in sampled_parts(frame, 40):
            yield frame, part, raw_ways(maps, part)


class Ways(unittest.TestCase):
    def no_way(self, bar, told, *handed, **named):
        with self.assertRaises(NoWay) as caught:
            told(*handed, **named)
        self.assertEqual(caught.exception.bar, bar)

    def no_number(self, frame, part, number):
        with self.assertRaises(NoNumber) as caught:
            way_at(frame, part, number)
        self.assertIs(caught.exception.number, number)

    def hold(self, frame, part, ways):
        """All that is told of the part's ways, against the list of them."""
        self.assertEqual(way_count(frame, part), len(ways), part)
        if not ways:
            bar = raw_bars(frame, part)[0]
            self.no_way(bar, least_way, frame, part)
            self.no_way(bar, way_at, frame, part, 0)
            self.no_way(bar, image_count, frame, part, every_place(frame)[0])
            return
        self.assertEqual(least_way(frame, part), ways[0][0])
        self.assertEqual([way_at(frame, part, number) for number in range(len(ways))], [way for way, led in ways])
        self.assertEqual([way_number(frame, part, way) for way, led in ways], list(range(len(ways))))
        self.no_number(frame, part, -1)
        self.no_number(frame, part, len(ways))


class TestSmallFrames(Ways):
    def test_gone_through_whole(self):
        for frame, part, ways in parts_of_small_frames():
            self.hold(frame, part, ways)

    def test_samples(self):
        for frame, part, ways in sampled_ways():
            self.hold(frame, part, ways)

    def test_turnings_that_are_no_ways(self):
        for frame in SMALL:
            maps = raw_maps(frame)
            for part in sampled_parts(frame, 60):
                ways = [way for way, led in raw_ways(maps, part)]
                for turning, led in maps:
                    number = ways.index(turning) if turning in ways else None
                    self.assertEqual(way_number(frame, part, turning), number)

    def test_images(self):
        for frame in SMALL + SAMPLED:
            maps = raw_maps(frame)
            for part in sampled_parts(frame, 40):
                ways = raw_ways(maps, part)
                for place in every_place(frame):
                    if ways:
                        images = {led[place] for way, led in ways}
                        self.assertEqual(image_count(frame, part, place), len(images), (part, place))
                    else:
                        self.no_way(raw_bars(frame, part)[0], image_count, frame, part, place)

    def test_the_empty_part(self):
        for frame in SMALL + SAMPLED:
            turnings = sorted(every_turning(frame))
            self.assertEqual(way_count(frame, ()), len(turnings))
            self.assertEqual([way_at(frame, (), number) for number in range(len(turnings))], turnings)
            self.assertEqual([way_number(frame, (), turning) for turning in turnings], list(range(len(turnings))))
            self.assertEqual(least_way(frame, ()), still_turning(frame))
            for place in every_place(frame):
                images = {raw_led(frame, turning, place) for turning in turnings}
                self.assertEqual(image_count(frame, (), place), len(images))


class TestWrittenOut(Ways):
    def test_least_way(self):
        self.assertEqual(least_way(FRAME, PART), LEAST)
        self.assertEqual(way_at(FRAME, PART), LEAST)
        self.assertEqual(way_at(FRAME, PART, 0), LEAST)
        self.assertEqual(raw_part(FRAME, LEAST, [one for one, other in PART]), PART)

    def test_numbers(self):
        # Stems 2 and 3 may change places, and three pairs of free stems move freely.
        self.assertEqual(way_count(FRAME, PART), 2 * 27)
        self.assertEqual(way_at(FRAME, PART, 1), (LEAST[0], LEAST[1][:3] + (((0,), (2,), (1,)),)))
        self.assertEqual(way_at(FRAME, PART, 3), (LEAST[0], LEAST[1][:3] + (((1,), (2,), (0,)),)))
        self.assertEqual(way_at(FRAME, PART, 9), (LEAST[0], LEAST[1][:2] + (((1,), (1,)), LEAST[1][3])))
        self.assertEqual(way_at(FRAME, PART, 27), ((2, 1, 3, 0), ((), ((0,),), ((0,), (0,)), ((0,), (0,), (0,)))))
        last = ((2, 1, 3, 0), ((), ((0,),), ((2,), (0,)), ((2,), (0,), (2,))))
        self.assertEqual(way_at(FRAME, PART, 53), last)
        self.assertEqual(way_number(FRAME, PART, last), 53)
        self.assertEqual(way_number(FRAME, PART, LEAST), 0)
        self.no_number(FRAME, PART, 54)
        self.no_number(FRAME, PART, -1)

    def test_images(self):
        # What is said of stem 0 goes to stem 2; what is said of stems 2 and 3 may be exchanged.
        self.assertEqual(image_count(FRAME, PART, PART[1][0]), 1)
        self.assertEqual(image_count(FRAME, PART, (1, ((2,), (0,), (1,), (2,)))), 1)
        self.assertEqual(image_count(FRAME, PART, (1, ((2,), (0,), (0,), (2,)))), 2)
        self.assertEqual(image_count(FRAME, PART, (1, ((2,), (0,), (0,), (1,)))), 1)
        self.assertEqual(image_count(FRAME, PART, PLACE), 9)
        self.assertEqual(image_count(FRAME, PART, (3, ((0,),) * 4)), 18)

    def test_no_way_of_a_barred_part(self):
        self.assertEqual(raw_bars(FRAME, BARRED)[0], BAR)
        self.assertEqual(way_count(FRAME, BARRED), 0)
        self.no_way(BAR, least_way, FRAME, BARRED)
        self.no_way(BAR, way_at, FRAME, BARRED)
        self.no_way(BAR, image_count, FRAME, BARRED, PLACE)
        for turning in [LEAST, still_turning(FRAME), mixed_turning(FRAME, 1)]:
            self.assertIs(way_number(FRAME, BARRED, turning), None)
        # NoWay goes ahead of NoNumber.
        for number in NO_NUMBERS + [-1, 1, HUGE, -HUGE]:
            self.no_way(BAR, way_at, FRAME, BARRED, number)

    def test_wrong_numbers(self):
        for number in NO_NUMBERS + [-1, 54, 55, HUGE, -HUGE, -54, LEAST, PART, list(PART), {0: PART}]:
            kept = copy.deepcopy(number)
            self.no_number(FRAME, PART, number)
            self.assertEqual(repr(number), repr(kept))

    def test_kinds_told(self):
        for told in [way_count(FRAME, PART), way_number(FRAME, PART, LEAST), image_count(FRAME, PART, PLACE)]:
            self.assertIs(told.__class__, int)
        self.assertIs(way_count(FRAME, BARRED).__class__, int)

    def test_arguments_by_name_and_asked_again(self):
        for step in range(2):
            self.assertEqual(least_way(part=PART, frame=FRAME), LEAST)
            self.assertEqual(way_at(number=0, part=PART, frame=FRAME), LEAST)
            self.assertEqual(way_at(part=PART, frame=FRAME), LEAST)
            self.assertEqual(way_count(part=PART, frame=FRAME), 54)
            self.assertEqual(way_number(turning=LEAST, part=PART, frame=FRAME), 0)
            self.assertEqual(image_count(place=PLACE, part=PART, frame=FRAME), 9)


class TestLeastWays(Ways):
    def chained(self, frame, one, other):
        """One part leads first places to second ones, the other one those to others: their least ways together."""
        led = dict(other)
        both = tuple((first, led[second]) for first, second in one)
        together = put_behind(frame, least_way(frame, one), least_way(frame, other))
        self.assertEqual(together, least_way(frame, both), (one, other))

    def test_one_behind_another_gone_through(self):
        for frame in SMALL:
            turnings = every_turning(frame)
            places = every_place(frame)
            for many in range(3):
                for ones in itertools.combinations(places, many):
                    for first, second in itertools.product(turnings[::5], turnings[::3]):
                        one = raw_part(frame, first, ones)
                        self.chained(frame, one, raw_part(frame, second, [place for start, place in one]))

    def test_one_behind_another_sampled(self):
        chance = random.Random(8)
        for frame in SAMPLED + [SIXTEEN]:
            for step in range(60 if frame is not SIXTEEN else 6):
                stems = chance.sample(range(frame.stem_count()), 2)
                seeds = [(chance.choice(stems), chance.randrange(10 ** 6)) for row in range(chance.randint(1, 6))]
                ones = {mixed_place(frame, stem, seed) for stem, seed in seeds}
                turnings = [mixed_turning(frame, chance.randrange(10 ** 6)) for turn in range(2)]
                one = raw_part(frame, turnings[0], ones)
                self.chained(frame, one, raw_part(frame, turnings[1], [place for start, place in one]))

    def test_turned_about(self):
        for frame, part, ways in itertools.chain(parts_of_small_frames(), sampled_ways()):
            if ways:
                back = turned_back(frame, least_way(frame, part))
                self.assertEqual(least_way(frame, turned_about(part)), back)
        part = twenty_rows(SIXTEEN)
        self.assertEqual(least_way(SIXTEEN, turned_about(part)), turned_back(SIXTEEN, least_way(SIXTEEN, part)))

    def test_still(self):
        for frame in SMALL:
            for many in range(4):
                for places in itertools.combinations(sorted(every_place(frame)), many):
                    part = tuple((place, place) for place in places)
                    self.assertEqual(least_way(frame, part), still_turning(frame))
        part = tuple((one, one) for one, other in twenty_rows(SIXTEEN))
        self.assertEqual(least_way(SIXTEEN, part), still_turning(SIXTEEN))
        self.assertEqual(way_number(SIXTEEN, part, still_turning(SIXTEEN)), 0)


class TestSixteenStems(Ways):
    def numbers(self, part, count):
        chance = random.Random(count)
        before = None
        for number in sorted({0, 1, count // 2, count - 2, count - 1, *[chance.randrange(count) for step in range(8)]}):
            way = way_at(SIXTEEN, part, number)
            self.assertIs(is_turning(SIXTEEN, way), True)
            self.assertEqual(raw_part(SIXTEEN, way, [one for one, other in part]), part)
            self.assertEqual(way_number(SIXTEEN, part, way), number)
            self.assertTrue(before is None or before < way)
            before = way
        self.no_number(SIXTEEN, part, count)
        self.no_number(SIXTEEN, part, -1)

    def test_the_empty_part(self):
        count = math.factorial(8) ** 2 * 30 ** 120
        self.assertEqual(way_count(SIXTEEN, ()), count)
        self.assertEqual(turning_count(SIXTEEN), count)
        self.numbers((), count)
        last = way_at(SIXTEEN, (), count - 1)
        self.assertEqual(last[0], (15, 14, 13, 12, 11, 10, 9, 8, 7, 6, 5, 4, 3, 2, 1, 0))
        self.assertEqual({tie for row in last[1] for tie in row}, {(1, 2, 4)})
        self.assertEqual(image_count(SIXTEEN, (), mixed_place(SIXTEEN, 3, 1)), 8 * 30 ** 15)

    def test_one_row(self):
        place = mixed_place(SIXTEEN, 4, 9)
        part = raw_part(SIXTEEN, mixed_turning(SIXTEEN, 5), [place])
        count = math.factorial(7) * math.factorial(8) * 30 ** 105
        self.assertEqual(way_count(SIXTEEN, part), count)
        self.numbers(part, count)
        self.assertEqual(image_count(SIXTEEN, part, place), 1)
        self.assertEqual(image_count(SIXTEEN, part, mixed_place(SIXTEEN, 3, 1)), 7 * 30 ** 14)
        self.assertEqual(image_count(SIXTEEN, part, mixed_place(SIXTEEN, 2, 1)), 8 * 30 ** 14)
        # Of three free stems of hue 0 it says something more, of two of these the same; of one of hue 1, too.
        says = list(place[1])
        for stem, more in [(0, 1), (3, 1), (7, 2), (2, 1)]:
            first, second, third = says[stem]
            says[stem] = (first, second, (third + more) % 5)
        self.assertEqual(image_count(SIXTEEN, part, (4, tuple(says))), 21 * 5 * 8)

    def test_twenty_rows(self):
        part = twenty_rows(SIXTEEN)
        count = way_count(SIXTEEN, part)
        self.assertEqual(count % 30 ** 55, 0)
        self.numbers(part, count)
        number = way_number(SIXTEEN, part, mixed_turning(SIXTEEN, 5))
        self.assertEqual(way_at(SIXTEEN, part, number), mixed_turning(SIXTEEN, 5))
        for one, other in part:
            self.assertEqual(image_count(SIXTEEN, part, one), 1)


if __name__ == "__main__":
    unittest.main()
