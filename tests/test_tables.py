"""Point 6: tables, and tables as webs."""

import copy
import itertools
import unittest

from wholeturn.frames import Frame
from wholeturn.tables import even_table, is_table, table_tie, web_tie
from tests.things import THINGS, every_table, mixed_table, spoiled

TWO = Frame((2,), (0, 0))
THREE = Frame((2, 3), (0, 1, 0))
SIXTEEN = Frame((2, 3, 5), (0,) * 16)
TABLE = ((), ((1, 2),), ((0, 1), (1, 0)))


class TestTables(unittest.TestCase):
    def test_is_table(self):
        self.assertIs(is_table(TWO, ((), ((1,),))), True)
        self.assertIs(is_table(THREE, TABLE), True)
        self.assertIs(is_table(SIXTEEN, mixed_table(SIXTEEN, 1)), True)
        for frame in [TWO, Frame((3,), (0, 1, 2)), Frame((2,), (0,) * 4)]:
            for table in every_table(frame):
                self.assertIs(is_table(frame, table), True, table)

    def test_numbers_at_the_bounds(self):
        frame = Frame((2, 5), (0, 0))
        self.assertIs(is_table(frame, ((), ((1, 4),))), True)
        self.assertIs(is_table(frame, ((), ((0, 0),))), True)
        self.assertIs(is_table(frame, ((), ((2, 4),))), False)
        self.assertIs(is_table(frame, ((), ((1, 5),))), False)
        self.assertIs(is_table(frame, ((), ((-1, 4),))), False)

    def test_of_another_frame(self):
        self.assertIs(is_table(TWO, TABLE), False)
        self.assertIs(is_table(THREE, ((), ((1,),))), False)
        self.assertIs(is_table(Frame((2, 3), (0, 1)), TABLE), False)
        self.assertIs(is_table(Frame((2, 3), (0, 1, 0, 1)), TABLE), False)
        self.assertIs(is_table(Frame((2, 2), (0, 1, 0)), TABLE), False)
        self.assertIs(is_table(Frame((2,), (0, 1, 0)), TABLE), False)

    def test_wrong_things(self):
        for frame, table in [(TWO, ((), ((1,),))), (THREE, TABLE)]:
            for thing in THINGS:
                self.assertIs(is_table(frame, thing), False, thing)
            for wrong in spoiled(table):
                kept = copy.deepcopy(wrong)
                self.assertIs(is_table(frame, wrong), False, wrong)
                self.assertEqual(repr(wrong), repr(kept))
        for wrong in spoiled(((2, 4),)):
            self.assertIs(is_table(Frame((3, 5), (0, 0)), ((), wrong)), False, wrong)
        self.assertIs(is_table(TWO, (((0,),), ((1,),))), False)
        self.assertIs(is_table(TWO, (((1,),),)), False)
        self.assertIs(is_table(TWO, ([], ((1,),))), False)
        self.assertIs(is_table(TWO, ((), ((True,),))), False)

    def test_even_table(self):
        self.assertEqual(even_table(TWO), ((), ((0,),)))
        self.assertEqual(even_table(THREE), ((), ((0, 0),), ((0, 0), (0, 0))))
        even = even_table(SIXTEEN)
        self.assertIs(is_table(SIXTEEN, even), True)
        self.assertEqual({tie for row in even for tie in row}, {(0, 0, 0)})

    def test_table_tie(self):
        self.assertEqual(table_tie(TABLE, 1, 0), (1, 2))
        self.assertEqual(table_tie(TABLE, 0, 1), (1, 2))
        self.assertEqual(table_tie(TABLE, 2, 0), (0, 1))
        self.assertEqual(table_tie(TABLE, 0, 2), (0, 1))
        self.assertEqual(table_tie(TABLE, 1, 2), (1, 0))
        table = mixed_table(SIXTEEN, 2)
        for one, other in itertools.permutations(range(16), 2):
            self.assertEqual(table_tie(table, one, other), table[max(one, other)][min(one, other)])

    def test_web_tie(self):
        self.assertEqual(web_tie(THREE, TABLE, 1, 0), (1, 2))
        self.assertEqual(web_tie(THREE, TABLE, 0, 1), (1, 1))
        self.assertEqual(web_tie(THREE, TABLE, 2, 0), (0, 1))
        self.assertEqual(web_tie(THREE, TABLE, 0, 2), (0, 2))
        self.assertEqual(web_tie(THREE, even_table(THREE), 0, 2), (0, 0))
        web = mixed_table(SIXTEEN, 3)
        for one, other in itertools.combinations(range(16), 2):
            there = web_tie(SIXTEEN, web, other, one)
            back = web_tie(SIXTEEN, web, one, other)
            self.assertEqual(there, web[other][one])
            self.assertEqual(back, tuple(-a % m for a, m in zip(there, (2, 3, 5))))

    def test_arguments_by_name(self):
        self.assertIs(is_table(thing=TABLE, frame=THREE), True)
        self.assertEqual(even_table(frame=TWO), ((), ((0,),)))
        self.assertEqual(table_tie(other=1, one=2, table=TABLE), (1, 0))
        self.assertEqual(web_tie(other=1, one=0, web=TABLE, frame=THREE), (1, 1))


if __name__ == "__main__":
    unittest.main()
