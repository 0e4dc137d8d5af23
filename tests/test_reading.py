"""Points 2, 3 (h) and 23: what texts write, and the row by which they write nothing."""

import copy
import itertools
import re
import unittest

from wholeturn.errors import NoText
from wholeturn.frames import Frame
from wholeturn.parts import is_part
from wholeturn.reading import read_frame, read_part, read_place, read_table, read_turning
from wholeturn.ties import is_measure
from tests.things import (
    HUGE, NO_TUPLES, edited, every_place, every_table, every_tie, every_turning, frame_text, mixed_place,
    mixed_turning, nested, part_text, place_text, sampled_parts, table_text, tie_text, turning_text, twenty_rows,
)

FRAME = Frame((2, 3), (0, 4, 0))
SMALL = [Frame((2,), (0, 0)), Frame((3,), (0, 1)), Frame((2, 2), (0, 0)), Frame((2,), (0, 1, 0))]
SIXTEEN = Frame((2, 3, 5), (0, 1, 1, 0) * 4)
MEASURES = [
    numbers for many in range(1, 4) for numbers in itertools.product(range(2, 6), repeat=many) if is_measure(numbers)
]
# None of these is a text.
NO_TEXTS = [thing for thing in NO_TUPLES if not isinstance(thing, str)] + [
    (), ("0 - 1",), ("-",), ["-"], (0, ((0,), (1,))), nested(tuple, 30), {"-": "-"}, ["measure 2", "hues 0 0"],
]


def first_wrong(text, rows):
    """The row that NoText names: rows has for each row all texts, or a pattern, that it can be; None where all are."""
    written = text.split("\n")
    for at, row in enumerate(written):
        if at >= len(rows):
            return at
        if not (rows[at].fullmatch(row) if isinstance(rows[at], re.Pattern) else row in rows[at]):
            return at
    return len(written) if len(written) < len(rows) else None


def frame_rows():
    return [{"measure " + " ".join(map(str, measure)) for measure in MEASURES}, re.compile("hues(?: [0-9]){2,16}")]


def table_rows(frame):
    ties = [tie_text(tie) for tie in every_tie(frame.measure)]
    return [{" ".join(row) for row in itertools.product(ties, repeat=stem)} for stem in range(1, len(frame.hues))]


def turning_rows(frame):
    leads = {turning_text(turning).split("\n")[0] for turning in every_turning(frame)}
    return [leads, *table_rows(frame)]


def place_rows(frame):
    return [{place_text(place) for place in every_place(frame)}]


def part_pairs(frame):
    """Each pair of places by its text."""
    return {part_text((row,)): row for row in itertools.product(every_place(frame), repeat=2)}


def part_row(pairs, text):
    """The row that NoText names of a part's text, and the rows of the part where it is one."""
    if text == "-":
        return None, ()
    rows = text.split("\n")
    for at, row in enumerate(rows):
        if row not in pairs:
            return at, None
    part = tuple(pairs[row] for row in rows)
    for at in range(len(part)):
        ones, others = [row[0] for row in part[:at + 1]], [row[1] for row in part[:at + 1]]
        if ones != sorted(set(ones)) or len(set(others)) < len(others):
            return at, None
    return None, part


class Holding(unittest.TestCase):
    def refused(self, row, told, *things):
        with self.assertRaises(NoText) as caught:
            told(*things)
        self.assertEqual(caught.exception.row, row, things[-1])
        self.assertIs(caught.exception.row.__class__, int)

    def hold_edited(self, texts, rows, write, told, *ahead):
        """Each text with one thing otherwise is read as it is written, or refused by its row."""
        found = set()
        for text in texts:
            for other in edited(text):
                wrong = first_wrong(other, rows)
                found.add(wrong)
                if wrong is None:
                    self.assertEqual(write(told(*ahead, other)), other)
                else:
                    self.refused(wrong, told, *ahead, other)
        return found


class TestFrames(Holding):
    def test_written_out(self):
        self.assertEqual(read_frame("measure 2 3\nhues 0 4 0"), FRAME)
        self.assertEqual(read_frame("measure 5\nhues 9 0"), Frame((5,), (9, 0)))
        self.assertEqual(read_frame(frame_text(SIXTEEN)), SIXTEEN)

    def test_all_measures_and_hues(self):
        for measure in MEASURES:
            frame = Frame(measure, (0, 1, 9))
            self.assertEqual(read_frame(frame_text(frame)), frame)
        for many in range(2, 17):
            frame = Frame((2,), tuple(at % 10 for at in range(many)))
            self.assertEqual(read_frame(frame_text(frame)), frame)

    def test_the_row_named(self):
        for text in ["", "\n", "measure", "measure ", " measure 2", "measure 2 ", "measure  2", "measure 02", "measure 1",
                     "measure 6", "measure 2 2 2 2", "measure 5 5 2", "measure 2.3", "measure -2", "Measure 2", "2 3",
                     "hues 0 0\nmeasure 2", "measure +2", "measure 2\r\nhues 0 0", "measure \u0662", "-", "measure2"]:
            self.refused(0, read_frame, text)
        for rest in ["", "\n", "\nhues", "\nhues 0", "\nhues 0 ", "\nhues 0 0 ", "\nhues 0  0", "\nhues 00 0",
                     "\nhues 0 10", "\nhues 0 -1", "\nhues" + " 0" * 17, "\n hues 0 0", "\nhue 0 0", "\n\nhues 0 0",
                     "\nmeasure 2\nhues 0 0", "\nhues 0.0", "\nhues 0 a"]:
            self.refused(1, read_frame, "measure 2 3" + rest)
        for rest in ["\n", "\n\n", "\nhues 0 0", "\n ", "\n-", "\nmeasure 2\nhues 0 0"]:
            self.refused(2, read_frame, "measure 2 3\nhues 0 4 0" + rest)

    def test_one_thing_otherwise(self):
        texts = [frame_text(frame) for frame in [FRAME, Frame((2,), (0, 1)), Frame((2, 3, 5), (3,) * 16)]]
        found = self.hold_edited(texts, frame_rows(), frame_text, read_frame)
        self.assertEqual(found, {None, 0, 1, 2})


class TestTables(Holding):
    def test_written_out(self):
        self.assertEqual(read_table(FRAME, "1.2\n0.1 1.0"), ((), ((1, 2),), ((0, 1), (1, 0))))
        self.assertEqual(read_table(Frame((5,), (0, 0)), "4"), ((), ((4,),)))

    def test_the_row_named(self):
        for text in ["", "\n", "1", "1.3", "2.0", "1.2.0", "1.", ".2", "1..2", "1,2", "1.2 ", " 1.2", "1.2 0.0", "-", "1.02",
                     "00.2\n0.1 1.0", "\n1.2\n0.1 1.0", "0.1 1.0\n1.2", "-1.2", "1. 2"]:
            self.refused(0, read_table, FRAME, text)
        for rest in ["", "\n", "\n0.1", "\n0.1 1.0 0.0", "\n0.1  1.0", "\n0.1 1.0 ", "\n0.1 1.3", "\n0.1 -", "\n\n0.1 1.0"]:
            self.refused(1, read_table, FRAME, "1.2" + rest)
        for rest in ["\n", "\n0.0 0.0 0.0", "\n\n"]:
            self.refused(2, read_table, FRAME, "1.2\n0.1 1.0" + rest)

    def test_one_thing_otherwise(self):
        for frame in SMALL:
            texts = [table_text(table) for table in every_table(frame)[:4]]
            found = self.hold_edited(texts, table_rows(frame), table_text, read_table, frame)
            self.assertEqual(found, {None, *range(len(frame.hues))})

    def test_sixteen_stems(self):
        text = table_text(mixed_turning(SIXTEEN, 3)[1])
        rows = text.split("\n")
        for at in range(15):
            self.refused(at, read_table, SIXTEEN, "\n".join(rows[:at] + rows[at + 1:]) if at < 14 else "\n".join(rows[:14]))
            self.refused(at, read_table, SIXTEEN, "\n".join(rows[:at] + [rows[at] + " "] + rows[at + 1:]))
        self.refused(15, read_table, SIXTEEN, text + "\n")


class TestPlaces(Holding):
    def test_written_out(self):
        self.assertEqual(read_place(FRAME, "1 0.2 - 1.0"), (1, ((0, 2), (0, 0), (1, 0))))
        self.assertEqual(read_place(Frame((2,), (0, 0)), "0 - 1"), (0, ((0,), (1,))))

    def test_the_row_named(self):
        for text in ["", "\n", "1", "-", "1 0.2 0.0 1.0", "1 - 0.2 1.0", "1 0.2 -", "1 0.2 - 1.0 1.0", "3 0.0 0.0 0.0",
                     "01 0.2 - 1.0", "1 0.2 - 1.0 ", " 1 0.2 - 1.0", "1  0.2 - 1.0", "1 0.2 - 1.3", "1 0.2 - 1", "1 0.2 - -",
                     "1 0.2 -- 1.0", "1 0.2 -0 1.0", "-1 0.2 - 1.0", "1\t0.2 - 1.0", "1 0.2 - 1.0\r", "1 0.2 - 1.0\t",
                     "\n1 0.2 - 1.0", "1 0.2\n- 1.0", "1 0.2 - 1.\u0660", "3 0.2 0.0 1.0 -"]:
            self.refused(0, read_place, FRAME, text)
        for rest in ["\n", "\n\n", "\n1 0.2 - 1.0", "\n "]:
            self.refused(1, read_place, FRAME, "1 0.2 - 1.0" + rest)

    def test_one_thing_otherwise(self):
        for frame in SMALL + [FRAME]:
            texts = [place_text(place) for place in every_place(frame)[::5]]
            found = self.hold_edited(texts, place_rows(frame), place_text, read_place, frame)
            self.assertEqual(found, {None, 0, 1})

    def test_sixteen_stems(self):
        place = mixed_place(SIXTEEN, 13, 5)
        self.assertEqual(read_place(SIXTEEN, place_text(place)), place)
        self.refused(0, read_place, SIXTEEN, "16" + place_text(place)[2:])
        self.refused(0, read_place, SIXTEEN, "12" + place_text(place)[2:])


class TestTurnings(Holding):
    def test_written_out(self):
        self.assertEqual(read_turning(FRAME, "leads 2 1 0\n1.2\n0.1 1.0"), ((2, 1, 0), ((), ((1, 2),), ((0, 1), (1, 0)))))

    def test_the_row_named(self):
        for text in ["", "leads", "leads 0 1", "leads 1 0 2", "leads 0 1 2 3", "leads 0 0 2", "leads 0 1 02", "leads 0 1 3",
                     "leads  0 1 2", "leads 0 1 2 ", "lead 0 1 2", "0 1 2", "1.2\n0.1 1.0", "leads 0 1 -2"]:
            self.refused(0, read_turning, FRAME, text)
            self.refused(0, read_turning, FRAME, text + "\n1.2\n0.1 1.0")
        for rest in ["", "\n", "\n1", "\n1.3", "\n0.1 1.0\n1.2", "\n\n1.2\n0.1 1.0"]:
            self.refused(1, read_turning, FRAME, "leads 2 1 0" + rest)
        for rest in ["", "\n", "\n0.1", "\n0.1 1.0 "]:
            self.refused(2, read_turning, FRAME, "leads 2 1 0\n1.2" + rest)
        for rest in ["\n", "\n0.1 1.0"]:
            self.refused(3, read_turning, FRAME, "leads 2 1 0\n1.2\n0.1 1.0" + rest)

    def test_one_thing_otherwise(self):
        for frame in SMALL:
            texts = [turning_text(turning) for turning in every_turning(frame)[::5]]
            found = self.hold_edited(texts, turning_rows(frame), turning_text, read_turning, frame)
            self.assertEqual(found, {None, *range(len(frame.hues) + 1)})

    def test_sixteen_stems(self):
        turning = mixed_turning(SIXTEEN, 3)
        text = turning_text(turning)
        self.assertEqual(read_turning(SIXTEEN, text), turning)
        self.refused(16, read_turning, SIXTEEN, text + "\n")
        self.refused(15, read_turning, SIXTEEN, text + " 0.0.0")
        self.refused(15, read_turning, SIXTEEN, "\n".join(text.split("\n")[:-1]))


class TestParts(Holding):
    def test_written_out(self):
        frame = Frame((2,), (0, 0))
        one, other = (0, ((0,), (1,))), (1, ((0,), (0,)))
        self.assertEqual(read_part(frame, "-"), ())
        self.assertEqual(read_part(frame, "0 - 1 > 1 0 -"), ((one, other),))
        self.assertEqual(read_part(frame, "0 - 1 > 1 0 -\n1 0 - > 0 - 1"), ((one, other), (other, one)))

    def test_the_row_named(self):
        frame = Frame((2,), (0, 0))
        for text in ["", "\n", "--", "- ", " -", "-\n", "-\n-", "\n-", "- > -", ">", " > ", "0 - 1", "0 - 1 >", "> 1 0 -",
                     "0 - 1 > ", "0 - 1 1 0 -", "0 - 1 > 1 0 - ", "0 - 1  > 1 0 -", "0 - 1 >  1 0 -", "0 - 1>1 0 -",
                     "0 - 1 > 1 0 - > 1 0 -", "0 - 1 > > 1 0 -", "0 - 2 > 1 0 -", "0 - 1 < 1 0 -", "-\n0 - 1 > 1 0 -"]:
            self.refused(0, read_part, frame, text)
        for rest in ["\n", "\n-", "\n\n", "\n1 0 -", "\n1 0 - > 0 - 1 ", "\n0 - 1 > 1 0 -"]:
            self.refused(1, read_part, frame, "0 - 1 > 1 0 -" + rest)

    def test_rows_that_are_no_part(self):
        frame = Frame((3,), (0, 0))
        first, second = "0 - 0 > 1 0 -", "0 - 1 > 1 1 -"
        self.assertTrue(is_part(frame, read_part(frame, first + "\n" + second)))
        # They don't rise; a first place stands there twice; a second one does.
        self.refused(1, read_part, frame, second + "\n" + first)
        self.refused(1, read_part, frame, first + "\n0 - 0 > 1 2 -")
        self.refused(2, read_part, frame, first + "\n" + second + "\n1 0 - > 1 0 -")
        self.refused(2, read_part, frame, first + "\n" + second + "\n" + second + "\n" + first)
        # A row that writes no two places goes ahead.
        self.refused(2, read_part, frame, second + "\n" + first + "\n")
        self.refused(3, read_part, frame, second + "\n" + first + "\n" + first + "\n1 0 - > 1 3 -")
        self.refused(2, read_part, frame, second + "\n" + first + "\n-")

    def test_one_thing_otherwise(self):
        for frame in SMALL:
            found = set()
            pairs = part_pairs(frame)
            texts = [part_text(part) for part in sampled_parts(frame, 8)] + ["-"]
            for text in texts:
                for other in set(edited(text)):
                    wrong, part = part_row(pairs, other)
                    found.add(wrong)
                    if wrong is None:
                        self.assertEqual(read_part(frame, other), part)
                    else:
                        self.refused(wrong, read_part, frame, other)
            self.assertLessEqual({None, 0, 1, 2}, found)

    def test_twenty_rows(self):
        rows = part_text(twenty_rows(SIXTEEN)).split("\n")
        self.refused(19, read_part, SIXTEEN, "\n".join(rows[:18] + [rows[19], rows[18]]))
        self.refused(20, read_part, SIXTEEN, "\n".join(rows) + "\n")
        self.refused(1, read_part, SIXTEEN, "\n".join([rows[1], rows[0]] + rows[2:]))


class TestAnything(Holding):
    CALLS = [(read_table, FRAME), (read_place, FRAME), (read_turning, FRAME), (read_part, FRAME), (read_frame,)]

    def test_no_texts(self):
        for thing in NO_TEXTS:
            kept = copy.deepcopy(thing)
            for told, *ahead in self.CALLS:
                self.refused(0, told, *ahead, thing)
            self.assertEqual(repr(thing), repr(kept))

    def test_long_texts(self):
        for text in ["1" * 20000, " " * 20000, "\n" * 20000, "9" * 10000 + " " + "9" * 9999, "leads " + "1" * 19000, ">" * 20000,
                     "measure " + "2" * 19000, "1 0." + "2" * 19000 + " - 1.0", "-" * 20000, "." * 20000, str(HUGE)]:
            for told, *ahead in self.CALLS:
                self.refused(0, told, *ahead, text)
        self.refused(1, read_frame, "measure 2\nhues 0 " + "0" * 19000)

    def test_texts_of_other_things(self):
        texts = [
            (read_frame, frame_text(FRAME)), (read_place, "1 0.2 - 1.0"), (read_turning, "leads 2 1 0\n1.2\n0.1 1.0"),
            (read_part, "1 0.2 - 1.0 > 1 0.2 - 1.0"), (read_part, "-"),
        ]
        for told, *ahead in self.CALLS:
            for other, text in texts:
                if other != told:
                    self.refused(0, told, *ahead, text)

    def test_arguments_by_name_and_asked_again(self):
        for step in range(2):
            self.assertEqual(read_frame(text="measure 2 3\nhues 0 4 0"), FRAME)
            self.assertEqual(read_table(text="1.2\n0.1 1.0", frame=FRAME)[0], ())
            self.assertEqual(read_place(text="1 0.2 - 1.0", frame=FRAME)[0], 1)
            self.assertEqual(read_turning(text="leads 2 1 0\n1.2\n0.1 1.0", frame=FRAME)[0], (2, 1, 0))
            self.assertEqual(read_part(text="-", frame=FRAME), ())
            self.refused(0, read_part, FRAME, "")


if __name__ == "__main__":
    unittest.main()
