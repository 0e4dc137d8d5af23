"""Points 2, 3 (g), 20 and 21: a hall in which tokens are put, led, turned and taken back."""

import copy
import itertools
import random
import unittest

from wholeturn.errors import (
    Full, Missing, NoBack, NoHue, NoName, NoPlace, NoRows, NoTimes, NoTurning, NoWay, Taken, TooMany,
)
from wholeturn.frames import Frame
from wholeturn.halls import Hall
from wholeturn.places import place_tie
from wholeturn.times import turn_times, turning_order
from wholeturn.turnings import is_turning, put_behind, still_turning, turned_back
from wholeturn.ways import least_way
from tests.things import (
    HUGE, NO_NUMBERS, THINGS, every_place, every_turning, mixed_place, mixed_turning, nested, nested_dict, place_grown,
    raw_bars, raw_led, raw_maps, raw_tie, raw_ways, spoiled, turning_grown,
)

FRAME = Frame((3,), (0, 0, 1))
ONE, TWO, LAST = (0, ((0,), (1,), (2,))), (1, ((2,), (0,), (1,))), (2, ((0,), (0,), (0,)))
TURNING = ((1, 0, 2), ((), ((1,),), ((2,), (0,))))
SMALL = [Frame((2,), (0, 0)), Frame((2,), (0, 1)), Frame((3,), (4, 4)), Frame((2,), (0, 1, 0))]
FIFTEEN = Frame((2, 3, 5), (0, 1, 1) * 5)
NAMES = ["a", "b", "zz", "abcdef", "names"]

# None of these is a name.
NO_NAMES = [thing for thing in THINGS + NO_NUMBERS if thing not in ("ab", "nought")] + [
    "", "abcdefg", "zzzzzzz", "A", "aB", "a1", "a b", " a", "a ", "a\n", "\na", "a-", "-", "\u00e4", "\u0430", "a\u0301", "{", "`",
    "_", "a.", "/", ("a",), ["a"], {"a": "a"}, (("a",),), nested(tuple, 30), nested(list, 30), nested_dict(30), b"a",
]


def filled():
    hall = Hall(FRAME)
    hall.put("a", ONE)
    hall.put("b", TWO)
    return hall


def seen(hall):
    """All that a hall tells of now."""
    places = {name: hall.where(name) for name in hall.names()}
    return (hall.frame_now().measure, hall.frame_now().hues, places, hall.whole_turning(), len(hall))


def history(hall):
    """All that a hall tells of now and behind each taking back, without changing it."""
    other = hall.copy()
    told = [seen(other)]
    while True:
        try:
            other.back()
        except NoBack:
            return told
        told.append(seen(other))


class Holding(unittest.TestCase):
    def refused(self, hall, kind, value, told, *things, **named):
        """The refusal has this value, and nothing is otherwise behind it."""
        before = history(hall)
        kept = repr((things, named))
        with self.assertRaises(kind) as caught:
            getattr(hall, told)(*things, **named)
        self.assertIs(caught.exception.__class__, kind)
        for name, thing in value.items():
            own = getattr(caught.exception, name)
            self.assertEqual(own, thing)
            self.assertEqual(repr(own), repr(thing))
        self.assertEqual(repr((things, named)), kept)
        self.assertEqual(history(hall), before)


class TestPutAndLift(Holding):
    def test_written_out(self):
        hall = Hall(FRAME)
        self.assertEqual(hall.names(), ())
        self.assertEqual(len(hall), 0)
        self.assertIs(hall.put("b", ONE), None)
        self.assertIs(hall.put("a", TWO), None)
        self.assertEqual(hall.names(), ("a", "b"))
        self.assertEqual(hall.where("b"), ONE)
        self.assertEqual(hall.where("a"), TWO)
        self.assertEqual(len(hall), 2)
        self.assertIs(hall.lift("b"), None)
        self.assertEqual(hall.names(), ("a",))
        self.assertEqual(len(hall), 1)
        self.refused(hall, Missing, {"name": "b"}, "where", "b")
        # Both the name and the place can be had again.
        hall.put("b", LAST)
        hall.put("c", ONE)
        self.assertEqual([hall.where(name) for name in hall.names()], [TWO, LAST, ONE])

    def test_names(self):
        hall = Hall(FRAME)
        places = every_place(FRAME)
        good = [*"abcdefghijklmnopqrstuvwxyz"]
        for name, place in zip(good, places):
            hall.put(name, place)
        self.assertEqual(hall.names(), tuple(good))
        hall = Hall(FRAME)
        good = ["z", "zz", "zzz", "aaaa", "abcde", "abcdef", "zzzzzz", "azazaz"]
        for name, place in zip(good, places):
            hall.put(name, place)
        self.assertEqual(hall.names(), tuple(sorted(good)))

    def test_no_name(self):
        for name in NO_NAMES:
            self.refused(filled(), NoName, {"name": name}, "put", name, LAST)

    def test_no_place(self):
        for place in THINGS + list(spoiled(LAST)) + [(2, ((0,), (0,), (1,))), (3, LAST[1]), (2, ((0,), (3,), (0,))), list(LAST)]:
            self.refused(filled(), NoPlace, {"thing": place}, "put", "c", place)

    def test_taken_and_full(self):
        self.refused(filled(), Taken, {"name": "a"}, "put", "a", LAST)
        self.refused(filled(), Full, {"name": "a"}, "put", "c", ONE)
        self.refused(filled(), Full, {"name": "b"}, "put", "c", TWO)
        self.refused(filled(), Taken, {"name": "a"}, "put", "a", ONE)

    def test_the_first_refusal_due(self):
        for name in ["", "abcdefg", None, ["a"]]:
            for place in [ONE, None, [ONE], 7]:
                self.refused(filled(), NoName, {"name": name}, "put", name, place)
        for place in [ONE, TWO, None, [ONE], 7, LAST[:1]]:
            self.refused(filled(), Taken, {"name": "b"}, "put", "b", place)
        self.refused(filled(), NoPlace, {"thing": [0, ONE[1]]}, "put", "c", [0, ONE[1]])

    def test_full_behind_turnings(self):
        for turning in every_turning(FRAME)[::7]:
            hall = filled()
            hall.turn(turning)
            for name, place in [("a", ONE), ("b", TWO)]:
                self.refused(hall, Full, {"name": name}, "put", "c", raw_led(FRAME, turning, place))
            hall.lift("a")
            hall.put("c", raw_led(FRAME, turning, ONE))

    def test_missing(self):
        for thing in NO_NAMES + ["c", "ab", "aa", "abcdef"]:
            self.refused(filled(), Missing, {"name": thing}, "lift", thing)
            self.refused(filled(), Missing, {"name": thing}, "where", thing)

    def test_a_place_of_the_frame_now(self):
        hall = filled()
        hall.grow(4)
        self.refused(hall, NoPlace, {"thing": LAST}, "put", "c", LAST)
        self.refused(hall, Full, {"name": "a"}, "put", "c", place_grown(FRAME, ONE))
        hall.put("c", (3, ((1,), (2,), (0,), (0,))))
        self.assertEqual(hall.where("c"), (3, ((1,), (2,), (0,), (0,))))


class TestLead(Holding):
    def test_written_out(self):
        hall = filled()
        hall.put("c", LAST)
        # Stem 1 is free behind, then, with nothing said more.
        way = hall.lead((("a", TWO),))
        self.assertEqual(way, least_way(FRAME, ((ONE, TWO),)))
        self.assertEqual(hall.where("a"), TWO)
        self.assertEqual(hall.where("b"), raw_led(FRAME, way, TWO))
        self.assertEqual(hall.where("c"), raw_led(FRAME, way, LAST))
        self.assertEqual(hall.whole_turning(), way)

    def test_of_nothing(self):
        hall = filled()
        self.assertEqual(hall.lead(()), still_turning(FRAME))
        self.assertEqual(hall.where("a"), ONE)
        self.assertEqual(Hall(FRAME).lead(()), still_turning(FRAME))

    def test_against_all_turnings(self):
        for frame in SMALL:
            maps = raw_maps(frame)
            chance = random.Random(5)
            places = sorted(every_place(frame))
            found = set()
            for step in range(150):
                hall = Hall(frame)
                stand = dict(zip("cabd", chance.sample(places, min(4, len(places)))))
                for name, place in stand.items():
                    hall.put(name, place)
                names = chance.sample(sorted(stand), chance.randint(0, 3))
                led = chance.choice(maps)[1] if step % 2 else dict(zip(places, chance.sample(places, len(places))))
                rows = tuple((name, led[stand[name]]) for name in names)
                part = tuple(sorted((stand[name], place) for name, place in rows))
                ways = raw_ways(maps, part)
                found.add((bool(ways), len(rows)))
                if not ways:
                    self.refused(hall, NoWay, {"bar": raw_bars(frame, part)[0]}, "lead", rows)
                    continue
                turning, led = ways[0]
                self.assertEqual(hall.lead(rows), turning)
                self.assertEqual({name: hall.where(name) for name in hall.names()},
                                 {name: led[place] for name, place in stand.items()})
            self.assertLessEqual({(True, 0), (True, 1), (True, 2), (False, 2)}, found)

    def test_rows_in_any_order(self):
        # The numbers in a bar are those of the part, which rises, not those of the rows as they are handed in.
        hall = filled()
        hall.put("c", LAST)
        rows = (("a", ONE), ("b", LAST), ("c", (2, ((1,), (0,), (0,)))))
        for told in itertools.permutations(rows):
            self.refused(hall, NoWay, {"bar": ("hue", 1)}, "lead", told)
        rows = (("a", ONE), ("b", TWO), ("c", (2, ((1,), (0,), (0,)))))
        for told in itertools.permutations(rows):
            self.refused(hall, NoWay, {"bar": ("tie", 0, 2)}, "lead", told)

    def test_no_rows(self):
        rows = (("a", LAST), ("b", ONE))
        wrong = THINGS + [list(rows), {"a": LAST}, (("a",),), (("a", LAST, LAST),), ("a", LAST), (["a", LAST],), rows + (None,),
                          ((LAST, "a"),), (rows,), "a", ("a",), (("a", "b"),)]
        wrong += [(rows[0], ("b", place)) for place in THINGS + list(spoiled(ONE))]
        wrong += [(rows[0], (name, ONE)) for name in NO_NAMES]
        # A name twice, a place twice, though all else be missing or barred.
        wrong += [(("a", LAST), ("a", ONE)), (("a", LAST), ("b", LAST)), (("c", ONE), ("c", TWO)), (("c", ONE), ("d", ONE))]
        for thing in wrong:
            self.refused(filled(), NoRows, {"thing": thing}, "lead", thing)

    def test_missing(self):
        hall = filled()
        self.refused(hall, Missing, {"name": "c"}, "lead", (("c", ONE),))
        self.refused(hall, Missing, {"name": "zz"}, "lead", (("a", ONE), ("zz", TWO), ("c", LAST)))
        self.refused(hall, Missing, {"name": "c"}, "lead", (("c", LAST), ("a", ONE), ("zz", TWO)))
        self.refused(hall, Missing, {"name": "abcdef"}, "lead", (("abcdef", LAST), ("a", LAST[:1] + (((1,), (0,), (0,)),))))
        self.refused(Hall(FRAME), Missing, {"name": "a"}, "lead", (("a", ONE),))

    def test_places_of_the_frame_now(self):
        hall = filled()
        hall.grow(0)
        self.refused(hall, NoRows, {"thing": (("a", ONE),)}, "lead", (("a", ONE),))
        way = hall.lead((("a", (3, ((0,), (1,), (2,), (0,)))),))
        self.assertEqual(hall.where("a"), (3, ((0,), (1,), (2,), (0,))))
        self.assertTrue(is_turning(hall.frame_now(), way))

    def test_twenty_tokens(self):
        frame = Frame((2, 3, 5), (0, 1, 1, 0) * 4)
        hall = Hall(frame)
        names = [one + other for one in "abcd" for other in "klmno"]
        turning = mixed_turning(frame, 5)
        stand = {name: mixed_place(frame, at % 6, 31 * at) for at, name in enumerate(names)}
        for name, place in stand.items():
            hall.put(name, place)
        way = hall.lead(tuple((name, raw_led(frame, turning, place)) for name, place in reversed(stand.items())))
        for name, place in stand.items():
            self.assertEqual(hall.where(name), raw_led(frame, turning, place))
            self.assertEqual(hall.where(name), raw_led(frame, way, place))


class TestTurn(Holding):
    def test_written_out(self):
        hall = filled()
        self.assertIs(hall.turn(TURNING), None)
        self.assertEqual(hall.where("a"), raw_led(FRAME, TURNING, ONE))
        self.assertEqual(hall.where("b"), raw_led(FRAME, TURNING, TWO))
        hall.turn(TURNING, -1)
        self.assertEqual((hall.where("a"), hall.where("b")), (ONE, TWO))
        self.assertEqual(hall.whole_turning(), still_turning(FRAME))
        hall.turn(TURNING, 0)
        self.assertEqual((hall.where("a"), hall.where("b")), (ONE, TWO))

    def test_any_number_of_times(self):
        order = turning_order(FRAME, TURNING)
        for times in [0, 1, -1, 2, -2, 5, order, -order, order + 1, HUGE, -HUGE, 10 ** 200 - 1, 1 - 10 ** 200]:
            hall = filled()
            hall.turn(TURNING, times)
            place = ONE
            for step in range(times % order):
                place = raw_led(FRAME, TURNING, place)
            self.assertEqual(hall.where("a"), place)
            self.assertEqual(hall.whole_turning(), turn_times(FRAME, TURNING, times))

    def test_no_turning(self):
        wrong = THINGS + list(spoiled(TURNING)) + [((2, 1, 0), TURNING[1]), ((0, 0, 2), TURNING[1]), TURNING[:1], list(TURNING)]
        for thing in wrong:
            self.refused(filled(), NoTurning, {"thing": thing}, "turn", thing)
        for thing in THINGS[::3]:
            for times in [0, 2, None, True, "1"]:
                self.refused(filled(), NoTurning, {"thing": thing}, "turn", thing, times)

    def test_no_times(self):
        for times in NO_NUMBERS + THINGS:
            if not isinstance(times, int) or isinstance(times, bool):
                self.refused(filled(), NoTimes, {"times": times}, "turn", TURNING, times)
                self.refused(filled(), NoTimes, {"times": times}, "turn", turning=TURNING, times=times)

    def test_a_turning_of_the_frame_now(self):
        hall = filled()
        hall.grow(1)
        self.refused(hall, NoTurning, {"thing": TURNING}, "turn", TURNING)
        hall.turn(turning_grown(FRAME, TURNING))
        self.assertEqual(hall.where("a"), place_grown(FRAME, raw_led(FRAME, TURNING, ONE)))


class TestGrow(Holding):
    def test_written_out(self):
        hall = filled()
        hall.turn(TURNING)
        self.assertIs(hall.grow(9), None)
        self.assertEqual(hall.frame_now(), Frame((3,), (0, 0, 1, 9)))
        self.assertEqual(hall.where("a"), place_grown(FRAME, raw_led(FRAME, TURNING, ONE)))
        self.assertEqual(hall.whole_turning(), turning_grown(FRAME, TURNING))
        self.assertEqual(FRAME, Frame((3,), (0, 0, 1)))

    def test_to_sixteen_and_beyond(self):
        hall = Hall(FIFTEEN)
        place = mixed_place(FIFTEEN, 4, 3)
        hall.put("a", place)
        hall.grow(0)
        self.assertEqual(hall.frame_now().stem_count(), 16)
        self.assertEqual(hall.where("a"), place_grown(FIFTEEN, place))
        for hue in range(10):
            self.refused(hall, TooMany, {"many": 17}, "grow", hue)
        # Where both are due, the hue is refused first.
        for hue in [10, -1, True, None, "0"]:
            self.refused(hall, NoHue, {"hue": hue}, "grow", hue)

    def test_no_hue(self):
        for hue in NO_NUMBERS + [-1, 10, 11, HUGE, -HUGE] + [thing for thing in THINGS if not isinstance(thing, int)]:
            self.refused(filled(), NoHue, {"hue": hue}, "grow", hue)
        for hue in range(10):
            hall = filled()
            hall.grow(hue)
            self.assertEqual(hall.frame_now().hues, (0, 0, 1, hue))


class TestBack(Holding):
    def test_each_kind_of_deed(self):
        deeds = [
            ("put", "c", LAST), ("lift", "a"), ("lead", (("a", TWO),)), ("lead", ()), ("turn", TURNING), ("turn", TURNING, 0),
            ("turn", TURNING, -1), ("turn", TURNING, HUGE), ("grow", 3),
        ]
        for first, *things in deeds:
            hall = filled()
            before = history(hall)
            getattr(hall, first)(*things)
            self.assertEqual(len(history(hall)), len(before) + 1)
            self.assertEqual(history(hall)[1:], before)
            self.assertIs(hall.back(), None)
            self.assertEqual(history(hall), before)

    def test_deeds_that_do_nothing_are_taken_back_each(self):
        hall = Hall(FRAME)
        hall.lead(())
        hall.turn(TURNING, 0)
        hall.put("a", ONE)
        hall.turn(TURNING, 0)
        hall.lead(())
        hall.back()
        hall.back()
        self.assertEqual(hall.names(), ("a",))
        hall.back()
        self.assertEqual(hall.names(), ())
        hall.back()
        hall.back()
        self.refused(hall, NoBack, {}, "back")

    def test_nothing_to_take_back(self):
        hall = Hall(FRAME)
        self.refused(hall, NoBack, {}, "back")
        hall.put("a", ONE)
        hall.back()
        for step in range(2):
            self.refused(hall, NoBack, {}, "back")
        # What is refused, and what only tells, is no deed.
        self.refused(hall, NoName, {"name": ""}, "put", "", ONE)
        hall.names(), hall.frame_now(), hall.whole_turning(), len(hall), hall.copy()
        self.refused(hall, NoBack, {}, "back")

    def test_deeds_behind_taking_back(self):
        hall = filled()
        hall.turn(TURNING)
        hall.back()
        hall.back()
        hall.put("c", LAST)
        self.assertEqual([sorted(told[2]) for told in history(hall)], [["a", "c"], ["a"], []])

    def test_without_keeping(self):
        hall = Hall(FRAME, keep=False)
        self.refused(hall, NoBack, {}, "back")
        hall.put("a", ONE)
        hall.turn(TURNING)
        hall.grow(0)
        hall.lead(())
        hall.put("b", (3, ((0,), (1,), (0,), (0,))))
        hall.lift("b")
        for step in range(2):
            self.refused(hall, NoBack, {}, "back")
        self.assertEqual(hall.where("a"), place_grown(FRAME, raw_led(FRAME, TURNING, ONE)))
        self.refused(hall.copy(), NoBack, {}, "back")
        other = hall.copy()
        other.turn(still_turning(hall.frame_now()))
        self.refused(other, NoBack, {}, "back")

    def test_keep_by_its_name_alone(self):
        with self.assertRaises(TypeError):
            Hall(FRAME, False)
        hall = Hall(keep=True, frame=FRAME)
        hall.put("a", ONE)
        hall.back()
        self.assertEqual(len(hall), 0)


class TestCopy(Holding):
    def test_of_its_own(self):
        hall = filled()
        hall.turn(TURNING)
        other = hall.copy()
        self.assertIsInstance(other, Hall)
        self.assertEqual(history(other), history(hall))
        before = history(hall)
        other.lift("a")
        other.grow(2)
        other.lead(())
        self.assertEqual(history(hall), before)
        kept = history(other)
        hall.put("c", LAST)
        hall.back()
        hall.back()
        hall.back()
        self.assertEqual(history(other), kept)
        self.assertEqual(history(hall), before[2:])

    def test_both_taken_back(self):
        hall = filled()
        other = hall.copy()
        other.back()
        self.assertEqual((hall.names(), other.names()), (("a", "b"), ("a",)))
        hall.back()
        hall.back()
        self.assertEqual((hall.names(), other.names()), ((), ("a",)))
        self.refused(hall, NoBack, {}, "back")
        other.back()
        self.refused(other, NoBack, {}, "back")

    def test_equal_to_itself_alone(self):
        hall = Hall(FRAME)
        self.assertTrue(hall == hall)
        for other in [hall.copy(), Hall(FRAME), FRAME, None, 0, False, (), "", 5]:
            self.assertFalse(hall == other)
            self.assertTrue(hall != other)


def turned(frame, turning, times, place):
    """The place behind so many times, back by the map turned about."""
    if times >= 0:
        for step in range(times):
            place = raw_led(frame, turning, place)
        return place
    came = {raw_led(frame, turning, other): other for other in every_place(frame)}
    for step in range(-times):
        place = came[place]
    return place


def replayed(frame, deeds):
    """The frame, each token's place by the turnings since it was put, and all turnings so far, grown."""
    tokens, turnings = {}, []
    for kind, *things in deeds:
        if kind == "put":
            tokens[things[0]] = things[1]
        elif kind == "lift":
            del tokens[things[0]]
        elif kind == "turn":
            tokens = {name: turned(frame, *things, place) for name, place in tokens.items()}
            turnings.append(things)
        else:
            tokens = {name: place_grown(frame, place) for name, place in tokens.items()}
            turnings = [(turning_grown(frame, turning), times) for turning, times in turnings]
            frame = Frame(frame.measure, frame.hues + (things[0],))
    return frame, tokens, turnings


class TestHistories(Holding):
    def one_deed(self, chance, hall, deeds):
        """Something is done to the hall, and to the deeds likewise."""
        frame = hall.frame_now()
        places = sorted(every_place(frame))
        kind = chance.choice(["put", "put", "lift", "turn", "turn", "lead", "lead", "grow", "back", "back"])
        if kind == "put":
            free = [place for place in places if place not in [hall.where(name) for name in hall.names()]]
            names = [name for name in NAMES if name not in hall.names()]
            if free and names:
                deeds.append(("put", chance.choice(names), chance.choice(free)))
                hall.put(*deeds[-1][1:])
        elif kind == "lift" and hall.names():
            deeds.append(("lift", chance.choice(hall.names())))
            hall.lift(deeds[-1][1])
        elif kind == "turn":
            deeds.append(("turn", self.any_turning(chance, frame), chance.randint(-3, 4)))
            hall.turn(*deeds[-1][1:])
        elif kind == "lead":
            self.some_are_led(chance, hall, deeds)
        elif kind == "grow" and frame.stem_count() < 4:
            deeds.append(("grow", chance.choice([0, 1, 4])))
            hall.grow(deeds[-1][1])
        elif kind == "back" and deeds:
            deeds.pop()
            hall.back()

    def any_turning(self, chance, frame):
        return mixed_turning(frame, chance.randrange(10 ** 6))

    def some_are_led(self, chance, hall, deeds):
        frame = hall.frame_now()
        names = chance.sample(hall.names(), chance.randint(0, min(3, len(hall))))
        turning = self.any_turning(chance, frame)
        rows = tuple((name, raw_led(frame, turning, hall.where(name))) for name in names)
        part = tuple(sorted((hall.where(name), place) for name, place in rows))
        way = hall.lead(rows)
        self.assertEqual(way, least_way(frame, part))
        deeds.append(("turn", way, 1))

    def hold(self, hall, start, deeds):
        frame, tokens, turnings = replayed(start, deeds)
        self.assertEqual(hall.frame_now(), frame)
        self.assertEqual({name: hall.where(name) for name in hall.names()}, tokens)
        self.assertEqual((hall.names(), len(hall)), (tuple(sorted(tokens)), len(tokens)))
        self.assertTrue(is_turning(frame, hall.whole_turning()))
        for place in every_place(frame)[::3]:
            led = place
            for turning, times in turnings:
                led = turned(frame, turning, times, led)
            self.assertEqual(raw_led(frame, hall.whole_turning(), place), led)

    def test_long_histories(self):
        for start in SMALL:
            for seed in range(3):
                chance = random.Random(seed)
                hall, deeds = Hall(start), []
                for step in range(60):
                    self.one_deed(chance, hall, deeds)
                    if step % 12 == 11:
                        self.hold(hall, start, deeds)
                        # A copy goes its own way, and is taken back whole.
                        other, more = hall.copy(), list(deeds)
                        self.one_deed(chance, other, more)
                        self.hold(other, start, more)
                self.hold(hall, start, deeds)
                while deeds:
                    deeds.pop()
                    hall.back()
                    if len(deeds) % 9 == 0:
                        self.hold(hall, start, deeds)
                self.refused(hall, NoBack, {}, "back")

    def test_ties_of_tokens_never_change(self):
        chance = random.Random(11)
        for start in [Frame((3,), (0, 0, 1)), Frame((2, 2), (0, 0, 0))]:
            hall = Hall(start)
            places = sorted(every_place(start))
            for name, place in zip(NAMES, chance.sample(places, len(NAMES))):
                hall.put(name, place)
            ties = {(one, other): raw_tie(start, hall.where(one), hall.where(other)) for one in NAMES for other in NAMES}
            for step in range(40):
                if step in (10, 30):
                    hall.grow(step // 10)
                elif step % 2:
                    hall.turn(self.any_turning(chance, hall.frame_now()), chance.randint(-9, 9))
                else:
                    self.some_are_led(chance, hall, [])
                for (one, other), tie in ties.items():
                    self.assertEqual(place_tie(hall.frame_now(), hall.where(one), hall.where(other)), tie)

    def test_the_whole_turning_without_tokens(self):
        hall = Hall(FRAME)
        self.assertEqual(hall.whole_turning(), still_turning(FRAME))
        hall.turn(TURNING, 5)
        self.assertEqual(hall.whole_turning(), turn_times(FRAME, TURNING, 5))
        other = ((1, 0, 2), ((), ((0,),), ((1,), (1,))))
        hall.turn(other)
        both = put_behind(FRAME, turn_times(FRAME, TURNING, 5), other)
        self.assertNotEqual(both, put_behind(FRAME, other, turn_times(FRAME, TURNING, 5)))
        self.assertEqual(hall.whole_turning(), both)
        hall.grow(0)
        self.assertEqual(hall.whole_turning(), turning_grown(FRAME, both))
        hall.turn(turned_back(hall.frame_now(), hall.whole_turning()))
        self.assertEqual(hall.whole_turning(), still_turning(hall.frame_now()))
        # Tokens that come and go don't change it.
        hall.back()
        hall.put("a", place_grown(FRAME, ONE))
        hall.lift("a")
        self.assertEqual(hall.whole_turning(), turning_grown(FRAME, both))

    def test_sixteen_stems(self):
        hall = Hall(FIFTEEN)
        place = mixed_place(FIFTEEN, 3, 1)
        hall.put("a", place)
        for seed in range(20):
            hall.turn(mixed_turning(FIFTEEN, seed), 1 if seed % 3 else HUGE)
            turning = mixed_turning(FIFTEEN, seed)
            for step in range(1 if seed % 3 else HUGE % turning_order(FIFTEEN, turning)):
                place = raw_led(FIFTEEN, turning, place)
        self.assertEqual(hall.where("a"), place)
        hall.grow(1)
        frame = hall.frame_now()
        place = place_grown(FIFTEEN, place)
        for seed in range(20):
            hall.turn(mixed_turning(frame, seed))
            place = raw_led(frame, mixed_turning(frame, seed), place)
        self.assertEqual(hall.where("a"), place)
        self.assertEqual(raw_led(frame, hall.whole_turning(), place_grown(FIFTEEN, mixed_place(FIFTEEN, 3, 1))), place)
        for step in range(41):
            hall.back()
        self.assertEqual(hall.where("a"), mixed_place(FIFTEEN, 3, 1))
        self.assertEqual(hall.frame_now(), FIFTEEN)

    def test_arguments_by_name_and_asked_again(self):
        hall = Hall(frame=FRAME)
        self.assertIs(hall.put(place=ONE, name="a"), None)
        self.assertEqual(hall.lead(rows=(("a", TWO),)), least_way(FRAME, ((ONE, TWO),)))
        self.assertIs(hall.turn(times=2, turning=TURNING), None)
        self.assertIs(hall.turn(turning=TURNING), None)
        self.assertIs(hall.grow(hue=0), None)
        for step in range(2):
            self.assertEqual(hall.where(name="a")[0], hall.where("a")[0])
            self.assertEqual(seen(hall), seen(hall))
        self.assertIs(hall.lift(name="a"), None)

    def test_what_was_told_is_not_changed_by_deeds(self):
        hall = filled()
        told = (hall.names(), hall.where("a"), hall.whole_turning(), hall.frame_now())
        kept = copy.deepcopy(told)
        hall.turn(TURNING)
        hall.grow(3)
        hall.lift("a")
        self.assertEqual(told, kept)


if __name__ == "__main__":
    unittest.main()
