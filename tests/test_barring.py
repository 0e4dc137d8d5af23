"""Points 2 and 14: the least rows that bar."""

import itertools
import unittest

from wholeturn.barring import barring
from wholeturn.bars import goes_on
from wholeturn.errors import TooMany
from wholeturn.frames import Frame
from tests.things import every_part, every_place, mixed_turning, raw_bars, raw_part, sampled_parts, twenty_rows

FRAME = Frame((3,), (0, 1, 0, 0))
ZERO = ((0,),) * 4
ONE, TWO, SIX = ((0,), (0,), (1,), (0,)), ((0,), (0,), (0,), (1,)), ((0,), (0,), (2,), (2,))
SAMPLED = [
    Frame((2,), (0, 0)), Frame((2,), (0, 0, 0)), Frame((3,), (0, 0, 0)), Frame((2,), (0, 0, 1, 0)),
    Frame((2, 2), (0, 0, 1)), Frame((2,), (0, 0, 0, 0)),
]
SIXTEEN = Frame((2, 3, 5), (0, 1, 1, 0) * 4)


def least_barred(frame, part):
    """By the document's words: of all parts made of some rows that have a bar the least of those of fewest rows."""
    for many in range(len(part) + 1):
        barred = [some for some in itertools.combinations(part, many) if raw_bars(frame, some)]
        if barred:
            return min(barred)
    return None


def nine_rows(frame):
    """A part of nine rows that goes on."""
    return raw_part(frame, mixed_turning(frame, 3), sorted(every_place(frame))[::2][:9])


class TestBarring(unittest.TestCase):
    def too_many(self, frame, part):
        with self.assertRaises(TooMany) as caught:
            barring(frame, part)
        self.assertEqual(caught.exception.many, len(part))
        self.assertIs(caught.exception.many.__class__, int)

    def test_written_out(self):
        self.assertIs(barring(FRAME, ()), None)
        hue, still = ((0, ZERO), (1, ZERO)), ((3, ZERO), (3, ZERO))
        self.assertIs(barring(FRAME, (still,)), None)
        self.assertEqual(barring(FRAME, (hue,)), (hue,))
        self.assertEqual(barring(FRAME, (hue, still)), (hue,))
        # Rows 0 and 1 are barred by the numbers of free stems alone, row 2 alone by hues.
        count = (((0, ZERO), (0, ZERO)), ((0, ONE), (0, SIX)))
        self.assertEqual(barring(FRAME, count), count)
        self.assertEqual(barring(FRAME, count + (still,)), count)
        self.assertEqual(barring(FRAME, count + (((3, ZERO), (1, ZERO)),)), (((3, ZERO), (1, ZERO)),))

    def test_the_least_of_the_fewest(self):
        tie = (((0, ZERO), (0, TWO)), ((2, ZERO), (2, ((1,), (0,), (0,), (0,)))), ((3, ZERO), (3, ZERO)))
        self.assertEqual(raw_bars(FRAME, tie), [("tie", 0, 1), ("tie", 0, 2)])
        self.assertEqual(barring(FRAME, tie), tie[:2])
        self.assertEqual(barring(FRAME, tie[::2]), tie[::2])
        self.assertIs(barring(FRAME, tie[1:]), None)
        hues = (((0, ZERO), (0, ZERO)), ((1, ZERO), (2, ZERO)), ((2, ZERO), (1, ZERO)))
        self.assertEqual(barring(FRAME, hues), hues[1:2])

    def rows_needed(self, frame, ahead, behind):
        """Rows of stem 0 that say so of the other stems: any fewer of them go on, all of them don't."""
        part = tuple(zip(
            [(0, ((0,), *[(number,) for number in says])) for says in ahead],
            [(0, ((0,), *[(number,) for number in says])) for says in behind],
        ))
        self.assertEqual(raw_bars(frame, part)[0][0], "count")
        self.assertEqual(barring(frame, part), part)
        for at in range(len(part)):
            self.assertIs(barring(frame, part[:at] + part[at + 1:]), None)
        # One row more, by which nothing is barred.
        more = ((1, ((0,),) * frame.stem_count()),) * 2
        self.assertEqual(barring(frame, part + (more,)), least_barred(frame, part + (more,)))

    def test_more_than_two_rows_are_needed(self):
        self.rows_needed(Frame((3,), (0, 1, 1, 1)), [(0, 0, 0), (0, 1, 2), (0, 2, 1)], [(0, 0, 0), (0, 1, 2), (1, 0, 2)])
        ahead = [(0, 0, 0, 0), (0, 0, 1, 1), (0, 1, 0, 1), (0, 1, 1, 0)]
        behind = [(0, 0, 0, 0), (1, 1, 0, 0), (1, 0, 1, 0), (1, 0, 0, 1)]
        self.rows_needed(Frame((2,), (0, 1, 1, 1, 1)), ahead, behind)

    def test_small_frame_gone_through_whole(self):
        for frame in [Frame((2,), (0, 0)), Frame((2,), (0, 1))]:
            for many in range(5):
                for part in every_part(frame, many):
                    self.assertEqual(barring(frame, part), least_barred(frame, part), part)

    def test_samples(self):
        sizes = set()
        for frame in SAMPLED:
            for part in sampled_parts(frame, 150):
                told = barring(frame, part)
                self.assertEqual(told, least_barred(frame, part), part)
                self.assertIs(told is None, goes_on(frame, part))
                sizes.add(None if told is None else len(told))
        self.assertTrue({None, 1, 2} <= sizes, sizes)

    def test_eight_rows(self):
        part = nine_rows(Frame((3,), (0, 0, 0)))[:8]
        frame = Frame((3,), (0, 0, 0))
        self.assertEqual(len(part), 8)
        self.assertIs(barring(frame, part), None)
        swapped = part[:6] + ((part[6][0], part[7][1]), (part[7][0], part[6][1]))
        self.assertTrue(raw_bars(frame, swapped))
        self.assertEqual(barring(frame, swapped), least_barred(frame, swapped))

    def test_eight_rows_of_sixteen_stems(self):
        part = twenty_rows(SIXTEEN)[4:12]
        self.assertIs(barring(SIXTEEN, part), None)
        swapped = ((part[0][0], part[1][1]), (part[1][0], part[0][1])) + part[2:]
        self.assertTrue(raw_bars(SIXTEEN, swapped))
        self.assertEqual(barring(SIXTEEN, swapped), least_barred(SIXTEEN, swapped))

    def test_nine_rows_and_more(self):
        frame = Frame((3,), (0, 0, 0))
        part = nine_rows(frame)
        self.assertIs(goes_on(frame, part), True)
        self.too_many(frame, part)
        swapped = part[:7] + ((part[7][0], part[8][1]), (part[8][0], part[7][1]))
        self.assertIs(goes_on(frame, swapped), False)
        self.too_many(frame, swapped)
        self.too_many(SIXTEEN, twenty_rows(SIXTEEN))

    def test_arguments_by_name_and_asked_again(self):
        hue = (((0, ZERO), (1, ZERO)),)
        for step in range(2):
            self.assertEqual(barring(part=hue, frame=FRAME), hue)


if __name__ == "__main__":
    unittest.main()
