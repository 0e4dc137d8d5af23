"""Points 2 and 3 over the whole program: likenesses, halls, texts and the desk hold together."""

import itertools
import random
import unittest

from wholeturn import errors
from wholeturn.bars import first_bar, goes_on
from wholeturn.coarsening import coarser_frame, coarser_place, coarser_turning
from wholeturn.desk import Desk
from wholeturn.frames import Frame
from wholeturn.growing import grown, grown_part, grown_turning
from wholeturn.halls import Hall
from wholeturn.likenesses import is_likeness, part_of
from wholeturn.likes import are_like, least_like
from wholeturn.places import place_tie
from wholeturn.reading import read_frame, read_part, read_place, read_table, read_turning
from wholeturn.rings import least_on_ring, ring_counts, stays
from wholeturn.showing import show_frame, show_part, show_place, show_table, show_turning
from wholeturn.standings import standing, web_of
from wholeturn.times import times_to, turn_times, turning_order
from wholeturn.turnings import lead_place, put_behind, still_turning, turned_back
from wholeturn.ways import least_way, way_at, way_count, way_number
from tests.things import HUGE, mixed_table

FRAMES = [
    Frame((2,), (0, 0, 0)), Frame((4, 2), (0, 1, 0, 0)), Frame((3, 4), (5,) * 6), Frame((2, 3, 5), (0, 1, 1, 0) * 4),
]


def likeness_by(chance, frame, web, many):
    """Another web and a likeness with it of so many stems: their ties carried over, all others its own."""
    stems = list(range(len(frame.hues)))
    led = {}
    for hue in set(frame.hues):
        own = [stem for stem in stems if frame.hues[stem] == hue]
        led.update(zip(own, chance.sample(own, len(own))))
    ahead = sorted(chance.sample(stems, many))
    rows = [list(row) for row in mixed_table(frame, chance.randrange(10 ** 6))]
    for x, v in itertools.combinations(ahead, 2):
        tie = place_tie(frame, standing(frame, web)[v], standing(frame, web)[x])
        y, w = led[x], led[v]
        rows[max(y, w)][min(y, w)] = tie if w > y else tuple(-a % b for a, b in zip(tie, frame.measure))
    return tuple(map(tuple, rows)), tuple((x, led[x]) for x in ahead)


class TestAllTogether(unittest.TestCase):
    def samples(self):
        for frame in FRAMES:
            chance = random.Random(len(frame.hues))
            for many in range(min(len(frame.hues), 8) + 1):
                web = mixed_table(frame, chance.randrange(10 ** 6))
                other, likeness = likeness_by(chance, frame, web, many)
                yield frame, web, other, likeness

    def test_every_likeness_goes_on_in_a_hall(self):
        for frame, web, other, likeness in self.samples():
            self.assertIs(is_likeness(frame, web, other, likeness), True)
            part = part_of(frame, web, other, likeness)
            self.assertIs(goes_on(frame, part), True)
            hall = Hall(frame)
            names = ["n" + letter for letter, place in zip("abcdefghijklmnop", standing(frame, web))]
            for name, place in zip(names, standing(frame, web)):
                hall.put(name, place)
            way = hall.lead(tuple((names[x], standing(frame, other)[y]) for x, y in likeness))
            self.assertEqual(way, least_way(frame, part))
            self.assertEqual(way_number(frame, part, way), 0)
            for x, y in likeness:
                self.assertEqual(hall.where(names[x]), standing(frame, other)[y])
            # All stand as they stood to one another, and led back they stand in the web again.
            hall.turn(way, -1)
            self.assertEqual(web_of(frame, tuple(hall.where(name) for name in names)), web)
            self.assertEqual(hall.whole_turning(), still_turning(frame))

    def test_parts_grown_coarsened_written_and_read(self):
        for frame, web, other, likeness in self.samples():
            part = part_of(frame, web, other, likeness)
            way = least_way(frame, part)
            self.assertEqual(read_frame(show_frame(frame)), frame)
            self.assertEqual(read_table(frame, show_table(web)), web)
            self.assertEqual(read_part(frame, show_part(part)), part)
            self.assertEqual(read_turning(frame, show_turning(way)), way)
            for measure in [frame.measure, tuple(2 if number == 4 else number for number in frame.measure)]:
                for one, image in part:
                    led = lead_place(
                        coarser_frame(frame, measure), coarser_turning(frame, measure, way),
                        coarser_place(frame, measure, one),
                    )
                    self.assertEqual(led, coarser_place(frame, measure, image))
            if frame.stem_count() < 16:
                more = grown(frame, 0)
                self.assertEqual(least_way(more, grown_part(frame, part)), grown_turning(frame, way))

    def test_ways_one_behind_another_and_turned_about(self):
        for frame, web, other, likeness in self.samples():
            part = part_of(frame, web, other, likeness)
            way = least_way(frame, part)
            about = tuple(sorted((image, one) for one, image in part))
            self.assertEqual(least_way(frame, about), turned_back(frame, way))
            there = way_at(frame, part, way_count(frame, part) - 1)
            onward = tuple(sorted((image, lead_place(frame, there, image)) for one, image in part))
            at_once = tuple(sorted((one, lead_place(frame, there, image)) for one, image in part))
            self.assertEqual(put_behind(frame, way, least_way(frame, onward)), least_way(frame, at_once))
            self.assertEqual(least_way(frame, tuple((one, one) for one, image in part)), still_turning(frame))

    def test_likes_times_and_rings(self):
        for frame, web, other, likeness in self.samples():
            part = part_of(frame, web, other, likeness)
            if not part:
                continue
            ones, others = tuple(one for one, image in part), tuple(image for one, image in part)
            self.assertIs(are_like(frame, ones, others), True)
            self.assertEqual(least_like(frame, ones), least_like(frame, others))
            way = least_way(frame, part)
            order = turning_order(frame, way)
            times = times_to(frame, way, ones[0], others[0])
            self.assertIn(times, (0, 1))
            self.assertEqual(least_on_ring(frame, way, ones[0]), least_on_ring(frame, way, others[0]))
            self.assertEqual(lead_place(frame, turn_times(frame, way, HUGE * order + times), ones[0]), others[0])
            self.assertEqual(stays(frame, way, order), sum(length * many for length, many in ring_counts(frame, way)))

    def test_the_desk_answers_as_all_these_do(self):
        for frame, web, other, likeness in self.samples():
            part = part_of(frame, web, other, likeness)
            if not part:
                continue
            desk = Desk(show_frame(frame))
            names = "abcdefgh"[:len(part)]
            for name, (one, image) in zip(names, part):
                self.assertEqual(desk.say(f"put {name} {show_place(one)}"), "done")
            rows = " / ".join(f"{name} {show_place(image)}" for name, (one, image) in zip(names, part))
            self.assertEqual(desk.say("ways " + rows), str(way_count(frame, part)))
            way = read_turning(frame, desk.say("lead " + rows).replace(" / ", "\n"))
            self.assertEqual(way, least_way(frame, part))
            for name, (one, image) in zip(names, part):
                self.assertEqual(read_place(frame, desk.say("where " + name)), image)
            self.assertEqual(desk.say("order"), str(turning_order(frame, way)))
            self.assertEqual(desk.say("stays"), str(stays(frame, way)))

    def test_any_other_part_has_a_bar(self):
        found = set()
        for frame, web, other, likeness in self.samples():
            for wrong in [mixed_table(frame, 3), mixed_table(frame, 4)]:
                part = part_of(frame, web, wrong, likeness)
                so = is_likeness(frame, web, wrong, likeness)
                self.assertIs(goes_on(frame, part), so)
                self.assertIs(first_bar(frame, part) is None, so)
                self.assertIs(way_count(frame, part) > 0, so)
                found.add(so)
        self.assertEqual(found, {True, False})


class TestObjectsAndRefusals(unittest.TestCase):
    def test_objects_equal_nothing_of_another_kind(self):
        frame = FRAMES[0]
        things = [frame, Hall(frame), Desk(show_frame(frame)), None, 0, 1, True, "", "measure 2", (), (frame,), [], {}]
        things += [(frame.measure, frame.hues), show_frame(frame), errors.NoBack()]
        for one, other in itertools.permutations(things, 2):
            if (one, other) not in [(1, True), (True, 1)]:
                self.assertFalse(one == other, (one, other))

    def test_refusals_are_straight_under_turn_error(self):
        desk = Desk(show_frame(FRAMES[0]))
        for told, kind in [("x", errors.NoLine), ("back", errors.NoBack), ("put a b", errors.NoText), ("lift a", errors.Missing)]:
            with self.assertRaises(errors.TurnError) as caught:
                desk.say(told)
            self.assertIs(caught.exception.__class__, kind)
            self.assertEqual(kind.__bases__, (errors.TurnError,))


if __name__ == "__main__":
    unittest.main()
