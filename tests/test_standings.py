"""Point 8: standings and the webs of lots."""

import itertools
import unittest

from wholeturn.frames import Frame
from wholeturn.places import is_place, place_tie
from wholeturn.standings import standing, web_of
from wholeturn.tables import is_table, web_tie
from tests.things import every_place, every_table, mixed_place, mixed_table

SMALL = [Frame((2,), (0, 0)), Frame((3,), (0, 1, 0)), Frame((2, 2), (0, 0, 0)), Frame((2,), (0, 1, 2, 0))]
SIXTEEN = Frame((2, 3, 5), (0, 1) * 8)
FRAME = Frame((4,), (0, 1, 0))
WEB = ((), ((3,),), ((1,), (2,)))


class TestStandings(unittest.TestCase):
    def test_written_out(self):
        lot = ((0, ((0,), (0,), (0,))), (1, ((3,), (0,), (0,))), (2, ((1,), (2,), (0,))))
        self.assertEqual(standing(FRAME, WEB), lot)
        self.assertEqual(web_of(FRAME, lot), WEB)

    def test_web_of_any_lot(self):
        lot = ((0, ((0,), (1,), (2,))), (1, ((3,), (0,), (1,))), (2, ((1,), (2,), (0,))))
        self.assertEqual(web_of(FRAME, lot), ((), ((2,),), ((3,), (1,))))

    def test_web_of_a_standing_is_its_web(self):
        for frame in SMALL:
            for web in every_table(frame):
                lot = standing(frame, web)
                self.assertEqual([place[0] for place in lot], list(range(frame.stem_count())))
                for stem, says in lot:
                    self.assertIs(is_place(frame, (stem, says)), True)
                    self.assertEqual(says[:stem], web[stem])
                    self.assertEqual(set(says[stem:]), {(0,) * len(frame.measure)})
                self.assertEqual(web_of(frame, lot), web)

    def test_ties_of_a_standing_are_the_web_s(self):
        for frame, web in [(FRAME, WEB), (SIXTEEN, mixed_table(SIXTEEN, 4))]:
            lot = standing(frame, web)
            for one, other in itertools.permutations(range(frame.stem_count()), 2):
                self.assertEqual(place_tie(frame, lot[one], lot[other]), web_tie(frame, web, one, other))

    def test_all_lots_of_small_frames(self):
        for frame in SMALL[:2]:
            places = every_place(frame)
            stems = range(frame.stem_count())
            for lot in itertools.product(*[[place for place in places if place[0] == stem] for stem in stems]):
                web = web_of(frame, lot)
                self.assertIs(is_table(frame, web), True)
                for one, other in itertools.permutations(stems, 2):
                    said, heard = lot[one][1][other], lot[other][1][one]
                    tie = tuple((a - b) % m for a, b, m in zip(said, heard, frame.measure))
                    self.assertEqual(web_tie(frame, web, one, other), tie)

    def test_sixteen_stems(self):
        lot = tuple(mixed_place(SIXTEEN, stem, 9 * stem * stem) for stem in range(16))
        web = web_of(SIXTEEN, lot)
        self.assertIs(is_table(SIXTEEN, web), True)
        self.assertEqual(web_of(SIXTEEN, standing(SIXTEEN, web)), web)
        for one, other in itertools.permutations(range(16), 2):
            self.assertEqual(web_tie(SIXTEEN, web, one, other), place_tie(SIXTEEN, lot[one], lot[other]))

    def test_arguments_by_name(self):
        self.assertEqual(web_of(lot=standing(web=WEB, frame=FRAME), frame=FRAME), WEB)


if __name__ == "__main__":
    unittest.main()
