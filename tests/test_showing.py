"""Points 3 (h) and 22: how everything is written."""

import unittest

from wholeturn.bars import first_bar
from wholeturn.frames import Frame
from wholeturn.reading import read_frame, read_part, read_place, read_table, read_turning
from wholeturn.showing import show_bar, show_frame, show_part, show_place, show_table, show_turning
from tests.things import (
    every_part, every_place, every_table, every_turning, frame_text, mixed_place, mixed_table, mixed_turning,
    part_text, place_text, raw_bars, sampled_parts, table_text, turning_text, twenty_rows,
)

FRAME = Frame((2, 3), (0, 4, 0))
PLACE = (1, ((0, 2), (0, 0), (1, 0)))
TABLE = ((), ((1, 2),), ((0, 1), (1, 0)))
SMALL = [
    Frame((2,), (0, 0)), Frame((2,), (0, 1)), Frame((3,), (4, 4)), Frame((2, 2), (0, 0)), Frame((2,), (0, 1, 0)),
    Frame((2,), (0, 0, 0)),
]
SIXTEEN = Frame((2, 3, 5), (0, 1, 1, 0) * 4)


class TestWrittenOut(unittest.TestCase):
    def test_frames(self):
        self.assertEqual(show_frame(FRAME), "measure 2 3\nhues 0 4 0")
        self.assertEqual(show_frame(Frame((5,), (9, 0))), "measure 5\nhues 9 0")
        self.assertEqual(show_frame(SIXTEEN), "measure 2 3 5\nhues 0 1 1 0 0 1 1 0 0 1 1 0 0 1 1 0")

    def test_tables(self):
        self.assertEqual(show_table(TABLE), "1.2\n0.1 1.0")
        self.assertEqual(show_table(((), ((4,),))), "4")
        self.assertEqual(show_table(((), ((1, 2, 3),))), "1.2.3")

    def test_places(self):
        # The document's own one.
        self.assertEqual(show_place(PLACE), "1 0.2 - 1.0")
        self.assertEqual(show_place((0, ((0,), (1,)))), "0 - 1")
        self.assertEqual(show_place((1, ((0,), (0,)))), "1 0 -")
        self.assertEqual(show_place(mixed_place(SIXTEEN, 15, 0)).split(" ")[0], "15")
        self.assertEqual(show_place(mixed_place(SIXTEEN, 15, 0)).split(" ")[-1], "-")

    def test_turnings(self):
        self.assertEqual(show_turning(((2, 1, 0), TABLE)), "leads 2 1 0\n1.2\n0.1 1.0")
        self.assertEqual(show_turning(((0, 1), ((), ((0,),)))), "leads 0 1\n0")

    def test_parts(self):
        one, other = (0, ((0,), (1,))), (1, ((0,), (0,)))
        self.assertEqual(show_part(()), "-")
        # The document's own one.
        self.assertEqual(show_part(((one, other),)), "0 - 1 > 1 0 -")
        self.assertEqual(show_part(((one, other), (other, one))), "0 - 1 > 1 0 -\n1 0 - > 0 - 1")

    def test_bars(self):
        self.assertEqual(show_bar(("hue", 0)), "hue 0")
        self.assertEqual(show_bar(("stems", 3, 19)), "stems 3 19")
        self.assertEqual(show_bar(("tie", 0, 12)), "tie 0 12")
        self.assertEqual(show_bar(("count", (4, ()), 2, 1)), "count 2 1 4")
        self.assertEqual(show_bar(("count", (9, ((1, 0),)), 0, 10)), "count 0 10 9 1.0")
        self.assertEqual(show_bar(("count", (0, ((1,), (0,), (4,))), 3, 0)), "count 3 0 0 1 0 4")


class TestWrittenAndReadAgain(unittest.TestCase):
    def hold(self, told, text):
        self.assertIs(told.__class__, str)
        self.assertEqual(told, text)

    def test_small_frames_gone_through_whole(self):
        for frame in SMALL:
            self.hold(show_frame(frame), frame_text(frame))
            self.assertEqual(read_frame(show_frame(frame)), frame)
            for table in every_table(frame):
                self.hold(show_table(table), table_text(table))
                self.assertEqual(read_table(frame, show_table(table)), table)
            for place in every_place(frame):
                self.hold(show_place(place), place_text(place))
                self.assertEqual(read_place(frame, show_place(place)), place)
            for turning in every_turning(frame):
                self.hold(show_turning(turning), turning_text(turning))
                self.assertEqual(read_turning(frame, show_turning(turning)), turning)

    def test_parts(self):
        for frame in SMALL:
            parts = [part for many in range(2) for part in every_part(frame, many)] + list(sampled_parts(frame, 60))
            for part in parts:
                self.hold(show_part(part), part_text(part))
                self.assertEqual(read_part(frame, show_part(part)), part)

    def test_sixteen_stems(self):
        self.assertEqual(read_frame(show_frame(SIXTEEN)), SIXTEEN)
        for seed in range(5):
            table, turning = mixed_table(SIXTEEN, seed), mixed_turning(SIXTEEN, seed)
            self.hold(show_table(table), table_text(table))
            self.hold(show_turning(turning), turning_text(turning))
            self.assertEqual(read_table(SIXTEEN, show_table(table)), table)
            self.assertEqual(read_turning(SIXTEEN, show_turning(turning)), turning)
            for stem in range(16):
                place = mixed_place(SIXTEEN, stem, seed)
                self.hold(show_place(place), place_text(place))
                self.assertEqual(read_place(SIXTEEN, show_place(place)), place)
        part = twenty_rows(SIXTEEN)
        self.hold(show_part(part), part_text(part))
        self.assertEqual(read_part(SIXTEEN, show_part(part)), part)

    def test_bars_of_parts(self):
        kinds = set()
        for frame in SMALL:
            for part in sampled_parts(frame, 60):
                for bar in raw_bars(frame, part):
                    words = show_bar(bar).split(" ")
                    kinds.add(words[0])
                    if words[0] == "count":
                        told = [str(bar[2]), str(bar[3]), str(bar[1][0]), *(".".join(map(str, tie)) for tie in bar[1][1])]
                        self.assertEqual(words[1:], told)
                    else:
                        self.assertEqual(words[1:], [str(number) for number in bar[1:]])
                if raw_bars(frame, part):
                    self.assertEqual(show_bar(first_bar(frame, part)), show_bar(raw_bars(frame, part)[0]))
        self.assertEqual(kinds, {"hue", "stems", "tie", "count"})

    def test_arguments_by_name_and_asked_again(self):
        for step in range(2):
            self.assertEqual(show_frame(frame=FRAME), "measure 2 3\nhues 0 4 0")
            self.assertEqual(show_table(table=TABLE), "1.2\n0.1 1.0")
            self.assertEqual(show_place(place=PLACE), "1 0.2 - 1.0")
            self.assertEqual(show_turning(turning=((2, 1, 0), TABLE)), "leads 2 1 0\n1.2\n0.1 1.0")
            self.assertEqual(show_part(part=()), "-")
            self.assertEqual(show_bar(bar=("hue", 0)), "hue 0")


if __name__ == "__main__":
    unittest.main()
