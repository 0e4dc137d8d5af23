"""Points 2, 3 (h) and 24: a desk to which one speaks in lines."""

import copy
import itertools
import random
import re
import unittest

from wholeturn.desk import Desk
from wholeturn.errors import (
    Full, Missing, NoBack, NoLine, NoRows, NoText, NoWay, Taken, TooMany, TurnError,
)
from wholeturn.frames import Frame
from wholeturn.halls import Hall
from wholeturn.places import place_count, place_tie
from wholeturn.reading import read_place
from wholeturn.rings import stays
from wholeturn.times import turn_times, turning_order
from wholeturn.turnings import still_turning
from wholeturn.ways import way_count
from tests.things import (
    HUGE, NO_TUPLES, THINGS, edited, every_place, frame_text, mixed_place, mixed_turning, nested, place_text, raw_bars,
    raw_led, raw_maps, raw_ways, tie_text, turning_text,
)

FRAME = Frame((3,), (0, 0, 1))
TEXT = "measure 3\nhues 0 0 1"
ONE, TWO, LAST = (0, ((0,), (1,), (2,))), (1, ((2,), (0,), (1,))), (2, ((0,), (0,), (0,)))
SMALL = [Frame((2,), (0, 0)), Frame((2,), (0, 1)), Frame((3,), (4, 4)), Frame((2, 2), (0, 0)), Frame((2,), (0, 1, 0))]

NAME = "[a-z]{1,6}"
WORD = r"(?!/(?: |\Z))[^ \n]+"
ROW = f"{NAME}(?: {WORD})+"
FORM = re.compile("|".join([
    f"put {ROW}", f"lift {NAME}", "grow [0-9]", "back", f"(?:lead|ways) {ROW}(?: / {ROW})*",
    "turn (?:0|-?[1-9][0-9]{0,199})", f"where {NAME}", "names", f"tie {NAME} {NAME}", "whole", "order", "stays",
]))
LINES = [
    "put c 2 0 0 -", "lift a", "grow 3", "back", "lead a 1 2 - 1", "lead a 1 2 - 1 / b 0 - 1 2", "turn 2", "turn -1", "turn 0",
    "where a", "names", "tie a b", "whole", "order", "ways a 1 2 - 1", "ways a 0 - 1 2 / b 1 2 - 1", "stays",
]
# None of these is a text.
NO_TEXTS = [thing for thing in NO_TUPLES + THINGS if not isinstance(thing, str)] + [
    ("names",), ["names"], {"names": "names"}, ("put", "a"), nested(list, 30), b"names",
]


def filled():
    desk = Desk(TEXT)
    desk.say("put a 0 - 1 2")
    desk.say("put b 1 2 - 1")
    return desk


def seen(desk):
    """All that a desk tells of now, without changing it."""
    told = [desk.say(line) for line in ["names", "whole", "order", "stays"]]
    names = [] if told[0] == "-" else told[0].split(" ")
    return told + [desk.say("where " + name) for name in names]


def by_hall(hall, line):
    """What the desk is to answer to a line of the right form, by the hall and the functions."""
    word, *words = line.split(" ")
    frame = hall.frame_now()
    rows = tuple(
        (row.split(" ")[0], row.split(" ", 1)[1]) for row in line.split(" ", 1)[1].split(" / ")
    ) if word in ("put", "lead", "ways") else ()
    rows = tuple((name, read_place(frame, text)) for name, text in rows)
    if word == "put":
        return hall.put(*rows[0]) or "done"
    if word == "lift":
        return hall.lift(words[0]) or "done"
    if word == "grow":
        return hall.grow(int(words[0])) or "done"
    if word == "back":
        return hall.back() or "done"
    if word == "turn":
        return hall.turn(hall.whole_turning(), int(words[0])) or "done"
    if word == "lead":
        return turning_text(hall.lead(rows)).replace("\n", " / ")
    if word == "ways":
        try:
            hall.copy().lead(rows)
        except NoWay:
            return "0"
        return str(way_count(frame, tuple(sorted((hall.where(name), place) for name, place in rows))))
    if word == "where":
        return place_text(hall.where(words[0]))
    if word == "names":
        return " ".join(hall.names()) or "-"
    if word == "tie":
        tie = place_tie(frame, *[hall.where(name) for name in words])
        return "-" if tie is None else tie_text(tie)
    whole = hall.whole_turning()
    if word == "whole":
        return turning_text(whole).replace("\n", " / ")
    return str(turning_order(frame, whole) if word == "order" else stays(frame, whole))


def answered(told, *things):
    """The answer, or the refusal's kind and values."""
    try:
        return told(*things)
    except TurnError as error:
        return error.__class__, vars(error)


class Holding(unittest.TestCase):
    def refused(self, desk, kind, value, line):
        """The refusal has this value, and nothing is otherwise behind it."""
        before = seen(desk)
        kept = repr(line)
        with self.assertRaises(kind) as caught:
            desk.say(line)
        self.assertIs(caught.exception.__class__, kind)
        self.assertEqual(vars(caught.exception), value)
        self.assertEqual(repr(vars(caught.exception)), repr(value))
        self.assertEqual(repr(line), kept)
        self.assertEqual(seen(desk), before)

    def no_line(self, line):
        self.refused(filled(), NoLine, {"line": line}, line)


class TestDesk(Holding):
    def test_of_the_frame_that_is_read(self):
        for frame in SMALL + [FRAME, Frame((2, 3, 5), tuple(range(8)) * 2)]:
            desk = Desk(frame_text(frame))
            self.assertEqual(desk.say("stays"), str(place_count(frame)))
            self.assertEqual(desk.say("whole"), turning_text(still_turning(frame)).replace("\n", " / "))
            self.assertEqual(desk.say("names"), "-")
            self.assertEqual(desk.say("order"), "1")

    def test_refused_as_read_frame_is(self):
        texts = [("", 0), ("measure 3", 1), ("measure 3\n", 1), (TEXT + "\n", 2), ("measure 3\nhues 0", 1), ("measure 31\nhues 0 0", 0)]
        for text, row in texts + [(thing, 0) for thing in NO_TEXTS]:
            with self.assertRaises(NoText) as caught:
                Desk(text)
            self.assertEqual(caught.exception.row, row)

    def test_equal_to_itself_alone(self):
        desk = Desk(TEXT)
        self.assertTrue(desk == desk)
        for other in [Desk(TEXT), Hall(FRAME), FRAME, None, TEXT]:
            self.assertFalse(desk == other)

    def test_desks_are_of_their_own(self):
        one, other = Desk(text=TEXT), Desk(TEXT)
        one.say("put a 0 - 1 2")
        self.assertEqual(other.say(line="names"), "-")


class TestLines(Holding):
    def test_written_out(self):
        desk = Desk("measure 2 3\nhues 0 0 1")
        self.assertEqual(desk.say("names"), "-")
        self.assertEqual(desk.say("put b 1 0.2 - 1.0"), "done")
        self.assertEqual(desk.say("put a 0 - 1.1 0.0"), "done")
        self.assertEqual(desk.say("put c 0 - 1.1 0.1"), "done")
        self.assertEqual(desk.say("names"), "a b c")
        self.assertEqual(desk.say("where b"), "1 0.2 - 1.0")
        self.assertEqual(desk.say("tie a b"), "1.2")
        self.assertEqual(desk.say("tie b a"), "1.1")
        self.assertEqual(desk.say("tie a c"), "-")
        self.assertEqual(desk.say("tie a a"), "-")
        self.assertEqual(desk.say("ways a 0 - 1.1 0.0"), "6")
        self.assertEqual(desk.say("ways a 0 - 1.1 0.0 / b 1 0.2 - 1.0"), "1")
        self.assertEqual(desk.say("ways a 0 - 1.1 0.0 / b 1 0.0 - 1.0"), "0")
        self.assertEqual(desk.say("whole"), "leads 0 1 2 / 0.0 / 0.0 0.0")
        self.assertEqual(desk.say("order"), "1")
        self.assertEqual(desk.say("stays"), "108")
        self.assertEqual(desk.say("lead a 0 - 1.2 0.0"), "leads 0 1 2 / 0.1 / 0.0 0.0")
        self.assertEqual(desk.say("whole"), "leads 0 1 2 / 0.1 / 0.0 0.0")
        self.assertEqual(desk.say("where b"), "1 0.0 - 1.0")
        self.assertEqual(desk.say("order"), "3")
        # Those of stem 2 stay, and no others.
        self.assertEqual(desk.say("stays"), "36")
        self.assertEqual(desk.say("turn 1"), "done")
        self.assertEqual(desk.say("whole"), "leads 0 1 2 / 0.2 / 0.0 0.0")
        self.assertEqual(desk.say("where a"), "0 - 1.0 0.0")
        self.assertEqual(desk.say("back"), "done")
        self.assertEqual(desk.say("turn -1"), "done")
        self.assertEqual(desk.say("whole"), "leads 0 1 2 / 0.0 / 0.0 0.0")
        self.assertEqual(desk.say("where a"), "0 - 1.1 0.0")
        self.assertEqual(desk.say("grow 1"), "done")
        self.assertEqual(desk.say("where a"), "0 - 1.1 0.0 0.0")
        self.assertEqual(desk.say("whole"), "leads 0 1 2 3 / 0.0 / 0.0 0.0 / 0.0 0.0 0.0")
        self.assertEqual(desk.say("lift a"), "done")
        self.assertEqual(desk.say("names"), "b c")

    def test_no_lines(self):
        for line in [
            "", " ", "\n", "name", "names ", " names", "names\n", "\nnames", "Names", "NAMES", "names a", "names -", "help",
            "put", "put a", "put a ", "put  a 0 - 1 2", "put c 0 - 1 2 ", "put c 0  - 1 2", "put c 0 - 1 2\n", "put c\n0 - 1 2",
            "put abcdefg 0 - 1 2", "put A 0 - 1 2", "put a1 0 - 1 2", "put 0 - 1 2", "put c /", "put c / 0 - 1 2", "put c 0 - 1 2 /",
            "put c 0 - 1 2 / d 2 0 0 -", "put / 0 - 1 2", "put c 0 / 1 2", " put c 0 - 1 2", "put\tc 0 - 1 2", "put \u00e4 0 - 1 2",
            "lift", "lift ", "lift abcdefg", "lift a b", "lift A", "lift 1", "lift -", "lift a\n", "lift  a", "lift /",
            "grow", "grow 10", "grow 00", "grow 03", "grow -1", "grow a", "grow 1 2", "grow 3 ", "grow +3", "grow \u0663", "grow 3.0",
            "back 1", "back ", "back back", "lead", "lead ", "lead a", "lead -", "lead ()", "lead a / b", "lead a 0 - 1 2 /",
            "lead / a 0 - 1 2", "lead a 0 - 1 2 / / b 1 2 - 1", "lead a 0 - 1 2 /  b 1 2 - 1", "lead a 0 - 1 2 / b",
            "lead abcdefg 0 - 1 2", "lead a 0 - 1 2 / B 1 2 - 1", "lead a 0 - 1 2\nb 1 2 - 1", "lead a 0 - 1 2 / ",
            "turn", "turn ", "turn -0", "turn 00", "turn 01", "turn -01", "turn +1", "turn --1", "turn 1 1", "turn 1.0", "turn a",
            "turn -", "turn 1" + "0" * 200, "turn -1" + "0" * 200, "turn 0" + "9" * 199, "turn " + "9" * 5000, "turn \u0661",
            "turn 1\n", "turn - 1", "turn 1_0", "where", "where a b", "where abcdefg", "where ", "where a ", "where 1",
            "tie", "tie a", "tie a b c", "tie a  b", "tie a abcdefg", "tie A b", "tie a /", "tie a / b", "whole 1", "whole ",
            "order a", "ways", "ways a", "ways a /", "ways -", "ways ()", "stays 1", "stays ", "stay", "whole\n", "turnings",
        ]:
            self.no_line(line)

    def test_anything(self):
        for thing in NO_TEXTS + [thing for thing in THINGS if isinstance(thing, str)]:
            kept = copy.deepcopy(thing)
            self.no_line(thing)
            self.assertEqual(repr(thing), repr(kept))
        for line in ["x" * 20000, " " * 20000, "put a " + "1" * 19000 + " /", "lead " + "/ " * 9000, "1" * 20000]:
            self.no_line(line)

    def test_one_thing_otherwise(self):
        found = set()
        start = ["put a 0 - 1 2", "put b 1 2 - 1", "lead a 1 0 - 2"]
        for line in LINES:
            for other in sorted(set(edited(line, " \n\t01-./ac"))):
                desk, hall = Desk(TEXT), Hall(FRAME)
                for first in start:
                    self.assertEqual(desk.say(first), by_hall(hall, first))
                if FORM.fullmatch(other):
                    told = answered(by_hall, hall, other)
                    found.add(told[0] if isinstance(told, tuple) else "answered")
                    self.assertEqual(answered(desk.say, other), told, other)
                    self.assertEqual(desk.say("whole"), by_hall(hall, "whole"))
                    self.assertEqual(desk.say("names"), by_hall(hall, "names"))
                else:
                    self.refused(desk, NoLine, {"line": other}, other)
        self.assertLessEqual({"answered", NoText, Missing, Taken, NoWay}, found)


class TestPlaces(Holding):
    def test_places_that_are_not_written_so(self):
        for text in ["x", "0", "-", "0 - 1", "0 - 1 3", "0 0 1 2", "0 - 1 2 0", "3 0 0 0", "00 - 1 2", "0 - 1 02", "0 - 1 2 > 0", "//", "/a",
                     "0 - 1 2\t", "0 - 1 \u0662", "0 - 1 2.0", "0 - 1 -2", "1" * 9000]:
            for line in [f"put c {text}", f"lead a {text}", f"ways a {text}", f"ways a 0 - 1 2 / b {text}", f"lead b {text} / a 0 - 1 2"]:
                self.refused(filled(), NoText, {"row": 0}, line)
            # Ahead of what the hall refuses: a name that is taken, missing ones, a name twice.
            for line in [f"put a {text}", f"lead zz {text}", f"ways zz {text}", f"lead a {text} / a {text}"]:
                self.refused(filled(), NoText, {"row": 0}, line)

    def test_places_of_the_frame_now(self):
        desk = filled()
        desk.say("grow 0")
        self.refused(desk, NoText, {"row": 0}, "put c 2 0 0 -")
        self.assertEqual(desk.say("put c 2 0 0 - 1"), "done")
        self.assertEqual(desk.say("where c"), "2 0 0 - 1")
        desk.say("back")
        desk.say("back")
        self.refused(desk, NoText, {"row": 0}, "put c 2 0 0 - 1")
        self.assertEqual(desk.say("put c 2 0 0 -"), "done")


class TestRefusals(Holding):
    def test_put_and_lift(self):
        self.refused(filled(), Taken, {"name": "a"}, "put a 2 0 0 -")
        self.refused(filled(), Taken, {"name": "a"}, "put a 1 2 - 1")
        self.refused(filled(), Full, {"name": "b"}, "put c 1 2 - 1")
        self.refused(filled(), Missing, {"name": "c"}, "lift c")
        self.refused(filled(), Missing, {"name": "abcdef"}, "where abcdef")

    def test_grow_and_back(self):
        desk = Desk("measure 2\nhues" + " 1" * 15)
        self.assertEqual(desk.say("grow 9"), "done")
        self.refused(desk, TooMany, {"many": 17}, "grow 9")
        self.assertEqual(desk.say("back"), "done")
        self.refused(desk, NoBack, {}, "back")

    def test_lead_and_ways(self):
        for word in ["lead", "ways"]:
            rows = (("a", ONE), ("a", TWO))
            self.refused(filled(), NoRows, {"thing": rows}, word + " a 0 - 1 2 / a 1 2 - 1")
            rows = (("c", ONE), ("b", ONE))
            self.refused(filled(), NoRows, {"thing": rows}, word + " c 0 - 1 2 / b 0 - 1 2")
            self.refused(filled(), Missing, {"name": "d"}, word + " a 2 0 0 - / d 0 - 1 2 / c 1 2 - 1")
            self.refused(filled(), Missing, {"name": "c"}, word + " c 2 0 0 -")
        self.refused(filled(), NoWay, {"bar": ("hue", 0)}, "lead a 2 0 0 -")
        self.refused(filled(), NoWay, {"bar": ("hue", 1)}, "lead b 2 0 0 - / a 0 - 1 2")
        self.assertEqual(filled().say("ways a 2 0 0 -"), "0")
        self.assertEqual(filled().say("ways b 2 0 0 - / a 0 - 1 2"), "0")

    def test_tie_tells_the_first_missing_name(self):
        self.refused(filled(), Missing, {"name": "zz"}, "tie zz c")
        self.refused(filled(), Missing, {"name": "zz"}, "tie a zz")
        self.refused(filled(), Missing, {"name": "zz"}, "tie zz a")
        self.refused(filled(), Missing, {"name": "c"}, "tie c zz")

    def test_ways_changes_nothing(self):
        desk = filled()
        before = seen(desk)
        self.assertEqual(desk.say("ways a 1 2 - 1"), "3")
        self.assertEqual(seen(desk), before)
        desk.say("back")
        self.assertEqual(desk.say("names"), "a")


class TestAnswers(Holding):
    def test_ways_and_lead_against_all_turnings(self):
        for frame in SMALL:
            maps = raw_maps(frame)
            chance = random.Random(9)
            places = sorted(every_place(frame))
            for step in range(60):
                desk = Desk(frame_text(frame))
                stand = dict(zip("ba", chance.sample(places, 2)))
                for name, place in stand.items():
                    desk.say(f"put {name} {place_text(place)}")
                rows = list(zip("ba", chance.sample(places, 2)))[:1 + step % 2]
                part = tuple(sorted((stand[name], place) for name, place in rows))
                ways = raw_ways(maps, part)
                text = " / ".join(f"{name} {place_text(place)}" for name, place in rows)
                self.assertEqual(desk.say("ways " + text), str(len(ways)))
                if not ways:
                    self.refused(desk, NoWay, {"bar": raw_bars(frame, part)[0]}, "lead " + text)
                    continue
                told = turning_text(ways[0][0]).replace("\n", " / ")
                self.assertEqual(desk.say("lead " + text), told)
                self.assertEqual(desk.say("whole"), told)
                for name, place in stand.items():
                    self.assertEqual(desk.say("where " + name), place_text(ways[0][1][place]))

    def test_turn_any_number_of_times(self):
        for times in [0, 1, -1, 2, -2, 7, 10 ** 199, 10 ** 200 - 1, 1 - 10 ** 200, HUGE, -HUGE]:
            desk = filled()
            desk.say("lead a 1 0 - 0")
            hall = Hall(FRAME)
            hall.put("a", ONE)
            way = hall.lead((("a", (1, ((0,), (0,), (0,)))),))
            self.assertEqual(desk.say(f"turn {times}"), "done")
            whole = turn_times(FRAME, way, times + 1)
            self.assertEqual(desk.say("whole"), turning_text(whole).replace("\n", " / "))
            self.assertEqual(desk.say("where a"), place_text(raw_led(FRAME, whole, ONE)))
            self.assertEqual(desk.say("back"), "done")
            self.assertEqual(desk.say("whole"), turning_text(way).replace("\n", " / "))

    def test_back_behind_what_does_nothing(self):
        desk = Desk(TEXT)
        self.assertEqual(desk.say("turn 0"), "done")
        self.assertEqual(desk.say("turn 5"), "done")
        for line in ["names", "whole", "order", "stays"]:
            desk.say(line)
        self.assertEqual(desk.say("back"), "done")
        self.assertEqual(desk.say("back"), "done")
        self.refused(desk, NoBack, {}, "back")

    def test_sixteen_stems(self):
        frame = Frame((2, 3, 5), (0, 1, 1, 0) * 4)
        desk, hall = Desk(frame_text(frame)), Hall(frame)
        for name, stem in [("abcdef", 15), ("b", 3), ("zz", 15)]:
            line = f"put {name} {place_text(mixed_place(frame, stem, 7 * stem + len(name)))}"
            self.assertEqual(desk.say(line), by_hall(hall, line))
        for seed in range(6):
            led = [(name, raw_led(frame, mixed_turning(frame, seed), hall.where(name))) for name in hall.names()]
            rows = " / ".join(f"{name} {place_text(place)}" for name, place in led)
            for line in ["ways " + rows, "lead " + rows, "whole", "order", "stays", f"turn {HUGE + seed}", "where zz", "tie b zz",
                         "tie zz abcdef", "order"]:
                self.assertEqual(desk.say(line), by_hall(hall, line))

    def test_long_histories_as_the_hall_does(self):
        found = set()
        for frame, seed in itertools.product(SMALL, range(3)):
            chance = random.Random(seed)
            desk, hall = Desk(frame_text(frame)), Hall(frame)
            for step in range(120):
                line = any_line(chance, hall)
                told = answered(by_hall, hall, line)
                self.assertEqual(answered(desk.say, line), told, line)
                found.add((line.split(" ")[0], told[0] if isinstance(told, tuple) else "answered"))
        for word in "put lift grow back lead turn where names tie whole order ways stays".split():
            self.assertIn((word, "answered"), found)
        for due in [("put", Taken), ("put", Full), ("lift", Missing), ("lead", NoRows), ("lead", NoWay),
                    ("lead", Missing), ("ways", NoRows), ("ways", Missing), ("tie", Missing)]:
            self.assertIn(due, found)


def any_line(chance, hall):
    """A line of the right form that is answered or refused by the hall."""
    word = chance.choice("put put put lift grow back lead lead lead turn where names tie whole order ways ways stays".split())
    if word == "grow" and hall.frame_now().stem_count() > 3:
        word = "names"
    places = [place_text(place) for place in every_place(hall.frame_now())]
    name = chance.choice("abc")
    if word == "put":
        return f"put {name} {chance.choice(places)}"
    if word in ("lead", "ways"):
        names = chance.sample("abc", chance.randint(1, 2)) if chance.random() < 0.9 else ["a", "a"]
        return f"{word} " + " / ".join(f"{one} {chance.choice(places)}" for one in names)
    if word in ("lift", "where"):
        return f"{word} {name}"
    if word == "tie":
        return f"tie {name} {chance.choice('abc')}"
    if word == "grow":
        return f"grow {chance.randrange(2)}"
    return f"turn {chance.randint(-4, 4)}" if word == "turn" else word


if __name__ == "__main__":
    unittest.main()
