"""Points 2, 3 (b) and 10: likenesses, and the parts made of them."""

import copy
import itertools
import random
import unittest

from wholeturn.bars import first_bar, goes_on
from wholeturn.frames import Frame
from wholeturn.likenesses import is_likeness, part_of
from wholeturn.parts import is_part
from tests.things import HUGE, NO_TUPLES, THINGS, every_table, mixed_table, spoiled

FRAME = Frame((4,), (0, 1, 0, 0))
WEB = ((), ((3,),), ((1,), (2,)), ((0,), (3,), (2,)))
# The same web, its stems 0, 2 and 3 put round: 0 to 2, 2 to 3, 3 to 0.
OTHER = ((), ((1,),), ((0,), (1,)), ((2,), (2,), (1,)))
ROUND = ((0, 2), (1, 1), (2, 3), (3, 0))
SIXTEEN = Frame((2, 3, 5), (0, 1) * 8)


def tie_between(frame, web, one, other):
    """The web's tie from one stem to another by the document's words."""
    if one > other:
        return web[one][other]
    return tuple(-number % limit for number, limit in zip(web[other][one], frame.measure))


def is_like(frame, web, other, pairs):
    """Whether pairs of stems, rising and one to one, are a likeness by the document's words."""
    for x, y in pairs:
        if frame.hues[x] != frame.hues[y]:
            return False
    for (x, y), (v, w) in itertools.combinations(pairs, 2):
        if tie_between(frame, web, x, v) != tie_between(frame, other, y, w):
            return False
    return True


def every_pairing(frame):
    """All rising tuples of pairs of stems, one to one."""
    stems = range(len(frame.hues))
    for many in range(len(frame.hues) + 1):
        for ones in itertools.combinations(stems, many):
            for others in itertools.permutations(stems, many):
                yield tuple(zip(ones, others))


def put_about(frame, web, leads):
    """The web whose stems are led so."""
    came = [leads.index(stem) for stem in range(len(leads))]
    return tuple(
        tuple(tie_between(frame, web, came[x], came[y]) for y in range(x)) for x in range(len(leads))
    )


class TestIsLikeness(unittest.TestCase):
    def test_written_out(self):
        self.assertEqual(put_about(FRAME, WEB, [2, 1, 3, 0]), OTHER)
        self.assertIs(is_likeness(FRAME, WEB, OTHER, ROUND), True)
        self.assertIs(is_likeness(FRAME, WEB, OTHER, ROUND[1:3]), True)
        self.assertIs(is_likeness(FRAME, OTHER, WEB, ROUND), False)
        self.assertIs(is_likeness(FRAME, WEB, WEB, ROUND), False)
        self.assertIs(is_likeness(FRAME, WEB, WEB, ((0, 0), (1, 1), (2, 2), (3, 3))), True)
        # The tie from 2 to 0 is 1, that from 0 to 2 is 3: a likeness keeps the direction.
        self.assertIs(is_likeness(FRAME, WEB, WEB, ((0, 2), (2, 0))), False)
        # The tie between 2 and 3 is the same in either direction.
        self.assertIs(is_likeness(FRAME, WEB, WEB, ((2, 3), (3, 2))), True)

    def test_of_few(self):
        self.assertIs(is_likeness(FRAME, WEB, OTHER, ()), True)
        self.assertIs(is_likeness(FRAME, WEB, WEB, ()), True)
        for one, other in itertools.product(range(4), repeat=2):
            so = (one == 1) == (other == 1)
            self.assertIs(is_likeness(FRAME, WEB, OTHER, ((one, other),)), so)

    def test_order_and_stems_twice(self):
        even = ((), ((0,),), ((0,),) * 2, ((0,),) * 3)
        self.assertIs(is_likeness(FRAME, even, even, ((0, 2), (2, 3))), True)
        self.assertIs(is_likeness(FRAME, even, even, ((2, 3), (0, 2))), False)
        self.assertIs(is_likeness(FRAME, even, even, ((0, 2), (0, 3))), False)
        self.assertIs(is_likeness(FRAME, even, even, ((0, 2), (3, 2))), False)
        self.assertIs(is_likeness(FRAME, even, even, ((0, 2), (0, 2))), False)
        self.assertIs(is_likeness(FRAME, even, even, ((0, 3), (2, 0), (3, 2))), True)
        self.assertIs(is_likeness(FRAME, even, even, ((0, 3), (3, 2), (2, 0))), False)
        self.assertIs(is_likeness(FRAME, WEB, OTHER, ROUND[::-1]), False)

    def test_stems_beyond_the_bounds(self):
        for wrong in [-1, 4, 5, 16, HUGE, -HUGE]:
            self.assertIs(is_likeness(FRAME, WEB, WEB, ((0, wrong),)), False)
            self.assertIs(is_likeness(FRAME, WEB, WEB, ((wrong, 0),)), False)
        # A number below 0 counts no stems from the end.
        self.assertIs(is_likeness(FRAME, WEB, WEB, ((-1, -1),)), False)

    def test_small_webs_gone_through_whole(self):
        told = {True: 0, False: 0}
        for frame in [Frame((2,), (0, 0, 0)), Frame((3,), (0, 1, 0))]:
            webs = every_table(frame)
            for web, other in itertools.product(webs[::3], webs):
                for pairs in every_pairing(frame):
                    so = is_like(frame, web, other, pairs)
                    self.assertIs(is_likeness(frame, web, other, pairs), so, (web, other, pairs))
                    told[so] += 1
        self.assertGreater(min(told.values()), 500)

    def test_wrong_things(self):
        self.assertIs(is_likeness(FRAME, WEB, OTHER, ROUND), True)
        for thing in NO_TUPLES + [thing for thing in THINGS if thing != ()]:
            self.assertIs(is_likeness(FRAME, WEB, OTHER, thing), False, thing)
            self.assertIs(is_likeness(FRAME, WEB, OTHER, (thing,)), False, thing)
            self.assertIs(is_likeness(FRAME, WEB, OTHER, ((0, thing),)), thing in [0, 2] and thing is not False, thing)
        for wrong in spoiled(ROUND):
            kept = copy.deepcopy(wrong)
            so = isinstance(wrong, tuple) and wrong == ROUND[:3]
            self.assertIs(is_likeness(FRAME, WEB, OTHER, wrong), so, wrong)
            self.assertEqual(repr(wrong), repr(kept))
        for truth in (True, False):
            self.assertIs(is_likeness(FRAME, WEB, WEB, ((truth, truth),)), False)
            self.assertIs(is_likeness(FRAME, WEB, WEB, ((int(truth), truth),)), False)
        self.assertIs(is_likeness(FRAME, WEB, WEB, ([0, 0],)), False)
        self.assertIs(is_likeness(FRAME, WEB, WEB, [(0, 0)]), False)
        self.assertIs(is_likeness(FRAME, WEB, WEB, ("00",)), False)
        self.assertIs(is_likeness(FRAME, WEB, WEB, ((0, 0, 0),)), False)


class TestPartOf(unittest.TestCase):
    def test_written_out(self):
        self.assertEqual(part_of(FRAME, WEB, OTHER, ((0, 2), (3, 0))), (
            ((0, ((0,), (0,), (0,), (0,))), (2, ((0,), (1,), (0,), (0,)))),
            ((3, ((0,), (3,), (2,), (0,))), (0, ((0,), (0,), (0,), (0,)))),
        ))
        self.assertEqual(part_of(FRAME, WEB, OTHER, ()), ())

    def test_of_what_is_no_likeness(self):
        pairs = ((0, 1), (1, 0))
        self.assertIs(is_likeness(FRAME, WEB, WEB, pairs), False)
        self.assertEqual(part_of(FRAME, WEB, WEB, pairs), (
            ((0, ((0,),) * 4), (1, ((3,), (0,), (0,), (0,)))), ((1, ((3,), (0,), (0,), (0,))), (0, ((0,),) * 4)),
        ))
        self.assertEqual(first_bar(FRAME, part_of(FRAME, WEB, WEB, pairs)), ("hue", 0))
        self.assertEqual(first_bar(FRAME, part_of(FRAME, WEB, WEB, ((0, 2), (2, 0)))), ("tie", 0, 1))

    def test_a_likeness_just_where_its_part_goes_on(self):
        for frame in [Frame((2,), (0, 0, 0)), Frame((3,), (0, 1, 0))]:
            webs = every_table(frame)
            for web, other in itertools.product(webs[::5], webs):
                for pairs in every_pairing(frame):
                    part = part_of(frame, web, other, pairs)
                    self.assertIs(is_part(frame, part), True)
                    self.assertEqual(part, tuple(sorted(part)))
                    self.assertIs(goes_on(frame, part), is_like(frame, web, other, pairs))

    def test_sixteen_stems(self):
        chance = random.Random(3)
        even, odd = chance.sample(range(0, 16, 2), 8), chance.sample(range(1, 16, 2), 8)
        leads = [even.pop() if stem % 2 == 0 else odd.pop() for stem in range(16)]
        web = mixed_table(SIXTEEN, 2)
        other = put_about(SIXTEEN, web, leads)
        whole = tuple(enumerate(leads))
        for many in range(17):
            pairs = tuple(sorted(chance.sample(whole, many)))
            self.assertIs(is_likeness(SIXTEEN, web, other, pairs), True)
            self.assertIs(goes_on(SIXTEEN, part_of(SIXTEEN, web, other, pairs)), True)
        first, second, third = other[15][0]
        spoilt = other[:15] + (((first, second, (third + 1) % 5),) + other[15][1:],)
        self.assertIs(is_likeness(SIXTEEN, web, spoilt, whole), False)
        self.assertIs(goes_on(SIXTEEN, part_of(SIXTEEN, web, spoilt, whole)), False)

    def test_arguments_by_name_and_asked_again(self):
        for step in range(2):
            self.assertIs(is_likeness(thing=ROUND, other=OTHER, web=WEB, frame=FRAME), True)
            part = part_of(likeness=ROUND, other=OTHER, web=WEB, frame=FRAME)
            self.assertEqual(part, part_of(FRAME, WEB, OTHER, ROUND))
            self.assertEqual([(one[0], other[0]) for one, other in part], list(ROUND))


if __name__ == "__main__":
    unittest.main()
