"""Points 2, 3 (f) and 18: a stem more."""

import unittest

from wholeturn.bars import goes_on
from wholeturn.errors import NoWay, TooMany
from wholeturn.frames import Frame
from wholeturn.growing import grown, grown_part, grown_place, grown_table, grown_turning
from wholeturn.parts import is_part
from wholeturn.places import is_place, place_tie
from wholeturn.standings import standing
from wholeturn.tables import even_table, is_table
from wholeturn.turnings import is_turning, lead_place, put_behind, still_turning
from wholeturn.ways import least_way
from tests.things import (
    every_part, every_place, every_table, every_turning, mixed_place, mixed_table, mixed_turning, sampled_parts,
    twenty_rows,
)

FRAME = Frame((2, 3), (0, 4, 0))
PLACE = (1, ((1, 2), (0, 0), (0, 1)))
TABLE = ((), ((1, 2),), ((0, 1), (1, 0)))
SMALL = [Frame((2,), (0, 0)), Frame((2,), (0, 1)), Frame((3,), (4, 4)), Frame((2,), (0, 1, 0)), Frame((2,), (0, 0, 0))]
SAMPLED = SMALL + [Frame((3,), (0, 0, 0)), Frame((2, 2), (0, 0, 1)), Frame((2,), (0, 0, 1, 0))]
FIFTEEN = Frame((2, 3, 5), (0, 1, 1) * 5)
SIXTEEN = Frame((2, 3, 5), (0, 1, 1, 0) * 4)


def way_or_none(frame, part):
    try:
        return least_way(frame, part)
    except NoWay:
        return None


class TestFrames(unittest.TestCase):
    def test_written_out(self):
        self.assertEqual(grown(FRAME, 7), Frame((2, 3), (0, 4, 0, 7)))
        self.assertEqual(grown(FRAME, 0).hues, (0, 4, 0, 0))
        self.assertEqual(grown(FRAME, 9).measure, (2, 3))
        self.assertIsInstance(grown(FRAME, 9), Frame)
        self.assertEqual(FRAME, Frame((2, 3), (0, 4, 0)))

    def test_to_sixteen_and_beyond(self):
        for hue in range(10):
            frame = grown(FIFTEEN, hue)
            self.assertEqual(frame.hues, (0, 1, 1) * 5 + (hue,))
            for step in range(2):
                with self.assertRaises(TooMany) as caught:
                    grown(frame, hue)
                self.assertEqual(caught.exception.many, 17)
            self.assertEqual(frame.stem_count(), 16)

    def test_from_two_stems_on(self):
        frame = Frame((4,), (3, 3))
        for stems in range(3, 17):
            frame = grown(frame, stems % 10)
            self.assertEqual(frame.stem_count(), stems)
            self.assertEqual(frame.hues[-1], stems % 10)


class TestPlacesAndTables(unittest.TestCase):
    def test_written_out(self):
        self.assertEqual(grown_place(FRAME, PLACE), (1, ((1, 2), (0, 0), (0, 1), (0, 0))))
        self.assertEqual(grown_table(FRAME, TABLE), TABLE + (((0, 0), (0, 0), (0, 0)),))
        self.assertEqual(grown_table(FRAME, TABLE, None), TABLE + (((0, 0), (0, 0), (0, 0)),))
        ties = ((1, 0), (0, 2), (1, 1))
        self.assertEqual(grown_table(FRAME, TABLE, ties), TABLE + (ties,))
        turning = ((2, 1, 0), TABLE)
        self.assertEqual(grown_turning(FRAME, turning), ((2, 1, 0, 3), TABLE + (((0, 0),) * 3,)))
        self.assertEqual(grown_part(FRAME, ()), ())
        self.assertEqual(grown_part(FRAME, ((PLACE, PLACE),)), ((grown_place(FRAME, PLACE),) * 2,))

    def test_of_the_grown_frame(self):
        for frame in SMALL:
            for hue in (0, 1, 9):
                more = grown(frame, hue)
                places = every_place(frame)
                for place in places:
                    self.assertIs(is_place(more, grown_place(frame, place)), True)
                    for other in places:
                        tie = place_tie(more, grown_place(frame, place), grown_place(frame, other))
                        self.assertEqual(tie, place_tie(frame, place, other))
                for table in every_table(frame):
                    self.assertIs(is_table(more, grown_table(frame, table)), True)
                    # The grown web stands where the web stood.
                    lot = standing(more, grown_table(frame, table))
                    self.assertEqual(lot[:-1], tuple(grown_place(frame, place) for place in standing(frame, table)))

    def test_turnings_lead_as_they_did(self):
        for frame in SMALL:
            more = grown(frame, frame.hues[0])
            for turning in every_turning(frame):
                self.assertIs(is_turning(more, grown_turning(frame, turning)), True)
                for place in every_place(frame):
                    led = lead_place(more, grown_turning(frame, turning), grown_place(frame, place))
                    self.assertEqual(led, grown_place(frame, lead_place(frame, turning, place)))
            self.assertEqual(grown_turning(frame, still_turning(frame)), still_turning(more))
            self.assertEqual(grown_table(frame, even_table(frame)), even_table(more))

    def test_to_sixteen_stems(self):
        more = grown(FIFTEEN, 1)
        first, second = mixed_turning(FIFTEEN, 1), mixed_turning(FIFTEEN, 2)
        self.assertIs(is_turning(more, grown_turning(FIFTEEN, first)), True)
        both = put_behind(more, grown_turning(FIFTEEN, first), grown_turning(FIFTEEN, second))
        self.assertEqual(both, grown_turning(FIFTEEN, put_behind(FIFTEEN, first, second)))
        self.assertIs(is_place(more, grown_place(FIFTEEN, mixed_place(FIFTEEN, 14, 3))), True)
        ties = tuple((1, stem % 3, stem % 5) for stem in range(15))
        self.assertIs(is_table(more, grown_table(FIFTEEN, mixed_table(FIFTEEN, 4), ties)), True)


class TestParts(unittest.TestCase):
    def hold(self, frame, part, hue):
        more = grown(frame, hue)
        part_grown = grown_part(frame, part)
        self.assertIs(is_part(more, part_grown), True)
        self.assertEqual(part_grown, tuple((grown_place(frame, one), grown_place(frame, other)) for one, other in part))
        self.assertIs(goes_on(more, part_grown), goes_on(frame, part))
        way = way_or_none(frame, part)
        self.assertEqual(way_or_none(more, part_grown), None if way is None else grown_turning(frame, way))
        return way is not None

    def test_small_frames_gone_through_whole(self):
        for frame in SMALL:
            found = set()
            for many in range(3 if len(every_place(frame)) < 10 else 2):
                for part in every_part(frame, many):
                    found.add(self.hold(frame, part, 0))
            self.assertIn(True, found)

    def test_sampled(self):
        for frame in SAMPLED:
            found = {self.hold(frame, part, hue) for hue in (0, 1, 5) for part in sampled_parts(frame, 40)}
            self.assertEqual(found, {True, False})

    def test_to_sixteen_stems(self):
        part = twenty_rows(SIXTEEN)
        # The same rows in a frame of fifteen stems: without what is said of stem 14, which is free.
        few = Frame(SIXTEEN.measure, SIXTEEN.hues[:14] + SIXTEEN.hues[15:])
        rows = tuple((shrunk(one), shrunk(other)) for one, other in part if other[0] != 14)
        self.assertIs(is_part(few, rows), True)
        for hue in (0, 1, 6):
            self.hold(few, rows, hue)

    def test_arguments_by_name_and_asked_again(self):
        ties = ((0, 0),) * 3
        for step in range(2):
            self.assertEqual(grown(hue=7, frame=FRAME), Frame((2, 3), (0, 4, 0, 7)))
            self.assertEqual(grown_place(place=PLACE, frame=FRAME)[0], 1)
            self.assertEqual(grown_table(ties=ties, table=TABLE, frame=FRAME), TABLE + (ties,))
            self.assertEqual(grown_table(table=TABLE, frame=FRAME), TABLE + (ties,))
            self.assertEqual(grown_part(part=(), frame=FRAME), ())
            self.assertEqual(grown_turning(turning=still_turning(FRAME), frame=FRAME)[0], (0, 1, 2, 3))


def shrunk(place):
    """The place without stem 14, the stem behind it called so."""
    stem, says = place
    return (min(stem, 14), says[:14] + says[15:])


if __name__ == "__main__":
    unittest.main()
