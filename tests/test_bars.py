"""Points 2, 3 (b) and 12: bars, and that a part goes on just where it has none."""

import copy
import itertools
import unittest

from wholeturn.barlooks import shows_bar
from wholeturn.bars import first_bar, goes_on
from wholeturn.frames import Frame
from tests.things import (
    HUGE, THINGS, every_part, every_place, every_turning, raw_bars, raw_led, sampled_parts, spoiled, turned_about,
    twenty_rows,
)

FRAME = Frame((3,), (0, 1, 0, 0))
ZERO = ((0,),) * 4
ONE, TWO, SIX = ((0,), (0,), (1,), (0,)), ((0,), (0,), (0,), (1,)), ((0,), (0,), (2,), (2,))
GOING = (((0, ZERO), (2, ZERO)), ((1, ZERO), (1, TWO)))
HUES = (((0, ZERO), (0, ZERO)), ((1, ZERO), (2, ZERO)), ((2, ZERO), (1, ZERO)))
STEMS = (((0, ZERO), (0, ZERO)), ((0, ONE), (2, ZERO)), ((2, ZERO), (2, ((1,), (0,), (0,), (0,)))))
TIES = (((0, ZERO), (0, TWO)), ((2, ZERO), (2, ZERO)), ((3, ZERO), (3, ZERO)))
COUNTS = (((0, ZERO), (0, ZERO)), ((0, ONE), (0, SIX)))
SMALL = [
    Frame((2,), (0, 0)), Frame((2,), (0, 1)), Frame((3,), (4, 4)), Frame((2,), (0, 0, 0)), Frame((2,), (0, 1, 0)),
]
SAMPLED = [
    Frame((2,), (0, 0, 0)), Frame((3,), (0, 0, 0)), Frame((2,), (0, 0, 1, 0)), Frame((2, 2), (0, 0, 1)),
    Frame((2,), (0, 0, 0, 0)),
]
SIXTEEN = Frame((2, 3, 5), (0, 1, 1, 0) * 4)


def going_parts(frame, many):
    """All parts of so many rows from which some turning goes on, found by going through all turnings."""
    places = every_place(frame)
    going = set()
    for turning in every_turning(frame):
        rows = sorted((place, raw_led(frame, turning, place)) for place in places)
        going.update(itertools.combinations(rows, many))
    return going


def every_shape(rows):
    """All that has the form of a bar of the first three kinds, of so many rows and somewhat beyond."""
    numbers = range(-2, rows + 2)
    yield from (("hue", i) for i in numbers)
    for i, j in itertools.product(numbers, repeat=2):
        yield ("stems", i, j)
        yield ("tie", i, j)


class TestFirstBar(unittest.TestCase):
    def test_written_out(self):
        self.assertIs(first_bar(FRAME, GOING), None)
        self.assertEqual(first_bar(FRAME, HUES), ("hue", 1))
        self.assertEqual(first_bar(FRAME, STEMS), ("stems", 0, 1))
        self.assertEqual(first_bar(FRAME, STEMS[1:]), ("stems", 0, 1))
        self.assertEqual(first_bar(FRAME, TIES), ("tie", 0, 2))
        self.assertIs(first_bar(FRAME, TIES[:2]), None)
        self.assertEqual(first_bar(FRAME, COUNTS), ("count", (0, ((0,),)), 1, 0))
        self.assertEqual(first_bar(FRAME, turned_about(COUNTS)), ("count", (0, ((0,),)), 0, 1))
        self.assertIs(first_bar(FRAME, ()), None)

    def test_kinds_in_their_order(self):
        # The later kinds' bars have the lesser rows each time.
        tie_ahead = (((0, ZERO), (0, TWO)), ((2, ZERO), (0, ONE)), ((3, ZERO), (3, ZERO)))
        self.assertEqual(raw_bars(FRAME, tie_ahead)[0], ("stems", 0, 1))
        stems_last = (((0, ZERO), (0, ONE)), ((2, ZERO), (2, ZERO)), ((2, TWO), (3, ZERO)))
        self.assertEqual(raw_bars(FRAME, stems_last), [("stems", 1, 2), ("tie", 0, 1)])
        self.assertEqual(first_bar(FRAME, stems_last), ("stems", 1, 2))
        hue_last = stems_last + (((3, ZERO), (1, ZERO)),)
        self.assertEqual(first_bar(FRAME, hue_last), ("hue", 3))

    def test_the_least_of_a_kind(self):
        part = tuple(((stem, ZERO), (stem, ZERO)) for stem in (0, 1)) + (((2, ZERO), (2, ((1,), (1,), (0,), (0,)))),)
        self.assertEqual(raw_bars(FRAME, part), [("tie", 0, 2), ("tie", 1, 2)])
        self.assertEqual(first_bar(FRAME, part), ("tie", 0, 2))
        self.assertEqual(raw_bars(FRAME, STEMS), [("stems", 0, 1), ("stems", 1, 2), ("tie", 0, 2)])

    def test_small_frames_gone_through_whole(self):
        for frame in SMALL:
            whole = len(every_place(frame))
            for many in range(whole + 1 if whole < 6 else 4 if whole == 6 else 3):
                for part in every_part(frame, many):
                    bars = raw_bars(frame, part)
                    self.assertEqual(first_bar(frame, part), bars[0] if bars else None, part)

    def test_samples(self):
        for frame in SAMPLED:
            kinds = set()
            for part in sampled_parts(frame, 400):
                bars = raw_bars(frame, part)
                self.assertEqual(first_bar(frame, part), bars[0] if bars else None, part)
                kinds.add(bars[0][0] if bars else None)
            wanted = {None, "stems", "tie", "count"} | ({"hue"} if len(set(frame.hues)) > 1 else set())
            self.assertEqual(kinds, wanted, (frame.measure, frame.hues))


class TestGoesOn(unittest.TestCase):
    def test_just_where_some_turning_does(self):
        for frame in SMALL:
            whole = len(every_place(frame))
            for many in range(whole + 1 if whole < 6 else 4 if whole == 6 else 3):
                going = going_parts(frame, many)
                for part in every_part(frame, many):
                    self.assertIs(goes_on(frame, part), part in going, part)

    def test_three_rows_of_three_stems(self):
        frame = Frame((2,), (0, 0, 0))
        going = going_parts(frame, 3)
        for part in going:
            self.assertIs(goes_on(frame, part), True, part)
        for part in itertools.islice(every_part(frame, 3), 0, None, 29):
            self.assertIs(goes_on(frame, part), part in going, part)

    def test_samples(self):
        for frame in SAMPLED:
            turnings = every_turning(frame)
            for part in sampled_parts(frame, 60):
                going = any(all(raw_led(frame, turning, one) == other for one, other in part) for turning in turnings)
                self.assertIs(goes_on(frame, part), going, part)

    def test_turned_about(self):
        for frame in SAMPLED:
            for part in sampled_parts(frame, 200):
                self.assertIs(goes_on(frame, turned_about(part)), goes_on(frame, part))

    def test_the_empty_part(self):
        for frame in SMALL + SAMPLED + [SIXTEEN]:
            self.assertIs(goes_on(frame, ()), True)
            self.assertIs(first_bar(frame, ()), None)

    def test_twenty_rows(self):
        part = twenty_rows(SIXTEEN)
        self.assertIs(goes_on(SIXTEEN, part), True)
        self.assertIs(goes_on(SIXTEEN, turned_about(part)), True)
        one, (stem, says) = part[19]
        told = {place[0] for first, place in part}
        for other in range(16):
            if other != stem:
                first, second, third = says[other]
                changed = says[:other] + ((first, second, (third + 1) % 5),) + says[other + 1:]
                barred = part[:19] + ((one, (stem, changed)),)
                bar = raw_bars(SIXTEEN, barred)[0]
                self.assertEqual(bar[0], "tie" if other in told else "count")
                self.assertEqual(first_bar(SIXTEEN, barred), bar)
                self.assertIs(goes_on(SIXTEEN, barred), False)


class TestShowsBar(unittest.TestCase):
    def test_written_out(self):
        self.assertIs(shows_bar(FRAME, HUES, ("hue", 1)), True)
        self.assertIs(shows_bar(FRAME, HUES, ("hue", 2)), True)
        self.assertIs(shows_bar(FRAME, HUES, ("hue", 0)), False)
        self.assertIs(shows_bar(FRAME, STEMS, ("stems", 0, 1)), True)
        self.assertIs(shows_bar(FRAME, STEMS, ("stems", 1, 2)), True)
        self.assertIs(shows_bar(FRAME, STEMS, ("stems", 0, 2)), False)
        self.assertIs(shows_bar(FRAME, STEMS, ("tie", 0, 2)), True)
        self.assertIs(shows_bar(FRAME, STEMS, ("tie", 0, 1)), False)
        self.assertIs(shows_bar(FRAME, TIES, ("tie", 0, 2)), True)

    def test_count_bars(self):
        for sign, ahead, behind in [((0,), 1, 0), ((1,), 1, 0), ((2,), 0, 2)]:
            self.assertIs(shows_bar(FRAME, COUNTS, ("count", (0, (sign,)), ahead, behind)), True)
            self.assertIs(shows_bar(FRAME, COUNTS, ("count", (0, (sign,)), behind, ahead)), False)
            self.assertIs(shows_bar(FRAME, COUNTS, ("count", (0, (sign,)), ahead + 1, behind)), False)
            self.assertIs(shows_bar(FRAME, COUNTS, ("count", (0, (sign,)), ahead, behind + 1)), False)
            self.assertIs(shows_bar(FRAME, COUNTS, ("count", (1, (sign,)), ahead, behind)), False)
            self.assertIs(shows_bar(FRAME, COUNTS, ("count", (0, (sign, sign)), ahead, behind)), False)
        # Alike numbers are no bar: stem 1 has this sign ahead and behind.
        self.assertIs(shows_bar(FRAME, COUNTS, ("count", (1, ((0,),)), 1, 1)), False)
        self.assertIs(shows_bar(FRAME, COUNTS, ("count", (5, ((0,),)), 0, 0)), False)

    def test_count_bars_without_differences(self):
        # Where no two rows are of one stem, as many stems of each hue are free ahead as behind.
        for part in [(), GOING, TIES[:2], COUNTS]:
            for hue, ahead, behind in itertools.product(range(3), range(5), range(5)):
                self.assertIs(shows_bar(FRAME, part, ("count", (hue, ()), ahead, behind)), False)

    def test_no_count_bar_beside_the_others(self):
        # The rows of COUNTS, and one more that leads to a stem of another hue.
        part = COUNTS + (((3, ZERO), (1, ZERO)),)
        self.assertEqual(first_bar(FRAME, part), ("hue", 2))
        for bar in raw_bars(FRAME, COUNTS) + raw_bars(FRAME, COUNTS + (((3, ZERO), (3, ZERO)),)):
            self.assertIs(shows_bar(FRAME, part, bar), False)
        for sign, ahead, behind in itertools.product([((0,),), ((1,),), ((2,),), ()], range(3), range(3)):
            self.assertIs(shows_bar(FRAME, part, ("count", (0, sign), ahead, behind)), False)

    def test_all_bars_of_samples(self):
        for frame in SAMPLED:
            for part in sampled_parts(frame, 60):
                bars = raw_bars(frame, part)
                for bar in bars:
                    self.assertIs(shows_bar(frame, part, bar), True)
                for shape in every_shape(len(part)):
                    self.assertIs(shows_bar(frame, part, shape), shape in bars, (part, shape))

    def test_exchanged_and_out_of_range(self):
        for part, kind in [(STEMS, "stems"), (TIES, "tie")]:
            at, later = first_bar(FRAME, part)[1:]
            self.assertIs(shows_bar(FRAME, part, (kind, at, later)), True)
            for i, j in [(later, at), (at, at), (later, later), (at, 3), (at - 3, later), (at, later - 3), (HUGE, later)]:
                self.assertIs(shows_bar(FRAME, part, (kind, i, j)), False)
        for number in [-1, -2, 3, 4, HUGE, -HUGE]:
            self.assertIs(shows_bar(FRAME, HUES, ("hue", number)), False)

    def test_truths_for_numbers(self):
        self.assertIs(shows_bar(FRAME, HUES, ("hue", True)), False)
        self.assertIs(shows_bar(FRAME, STEMS, ("stems", False, 1)), False)
        self.assertIs(shows_bar(FRAME, STEMS, ("stems", 0, True)), False)
        self.assertIs(shows_bar(FRAME, STEMS, ("stems", True, 2)), False)
        self.assertIs(shows_bar(FRAME, TIES, ("tie", False, 2)), False)
        self.assertIs(shows_bar(FRAME, COUNTS, ("count", (False, ((0,),)), 1, 0)), False)
        self.assertIs(shows_bar(FRAME, COUNTS, ("count", (0, ((False,),)), 1, 0)), False)
        self.assertIs(shows_bar(FRAME, COUNTS, ("count", (0, ((0,),)), True, 0)), False)
        self.assertIs(shows_bar(FRAME, COUNTS, ("count", (0, ((0,),)), 1, False)), False)

    def test_wrong_things(self):
        for part in [(), GOING, HUES, STEMS, TIES, COUNTS]:
            for thing in THINGS + ["hue", "count", ("hue",), ("stems", 0), ("tie",), ("count",), ("", 0), ("none", 0, 1)]:
                self.assertIs(shows_bar(FRAME, part, thing), False, thing)
                for kind in ["hue", "stems", "tie", "count"]:
                    for wrong in [(kind, thing), (kind, thing, 1), (kind, 0, thing), (kind, thing, 1, 0), (thing, 0, 1)]:
                        so = wrong in raw_bars(FRAME, part) and not isinstance(thing, bool)
                        self.assertIs(shows_bar(FRAME, part, wrong), so, wrong)
            for bar in raw_bars(FRAME, part):
                for wrong in spoiled(bar):
                    kept = copy.deepcopy(wrong)
                    self.assertIs(shows_bar(FRAME, part, wrong), False, wrong)
                    self.assertEqual(repr(wrong), repr(kept))

    def test_of_twenty_rows(self):
        part = twenty_rows(SIXTEEN)
        self.assertIs(shows_bar(SIXTEEN, part, ("tie", 0, 19)), False)
        one, other = part[19][1], part[18][1]
        swapped = part[:18] + ((part[18][0], one), (part[19][0], other))
        bars = raw_bars(SIXTEEN, swapped)
        self.assertGreater(len(bars), 0)
        for bar in bars:
            self.assertIs(shows_bar(SIXTEEN, swapped, bar), True)
        for shape in every_shape(20):
            self.assertIs(shows_bar(SIXTEEN, swapped, shape), shape in bars)

    def test_arguments_by_name_and_asked_again(self):
        for step in range(2):
            self.assertEqual(first_bar(part=TIES, frame=FRAME), ("tie", 0, 2))
            self.assertIs(goes_on(part=GOING, frame=FRAME), True)
            self.assertIs(shows_bar(thing=("tie", 0, 2), part=TIES, frame=FRAME), True)


if __name__ == "__main__":
    unittest.main()
