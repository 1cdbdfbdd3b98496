import itertools
import unittest

from hearths.errors import BadHours, BadWoods, NoRoom
from hearths.twohours import apart_by, between, rooms_for
from tests.brute import all_fires, great_houses, house_of, path, sample_of_objects, small_cases, stretches_of
from tests.test_fires import BAD_WOODS, W
from tests.test_ways import raised

H = house_of("ab bc bd")
H6 = house_of("ax bx xy cy dy")
W6 = {"a": 1, "b": 1, "c": 4, "d": 1, "x": 4, "y": 3}


class TwoHours(unittest.TestCase):
    """[15], [16]"""

    def test_against_all_fires(self):
        for _, house, woods in small_cases(20, 40, 5):
            fires = all_fires(house, woods)
            for one, other in itertools.product(house.rooms(), repeat=2):
                had = {first: set() for first in house.rooms()}
                for first, fire in fires:
                    had[first].add(fire[other] - fire[one])
                self.check(house, woods, one, other, had)

    def check(self, house, woods, one, other, had):
        for first, hours in had.items():
            told = between(house, woods, first, one, other)
            self.assertIsInstance(told, tuple)
            self.assertEqual(told, (min(hours), max(hours)))
            self.assertEqual(len(hours), told[1] - told[0] + 1)
        everything = set().union(*had.values())
        for hours in range(min(everything) - 2, max(everything) + 3):
            firsts = [first for first in house.rooms() if hours in had[first]]
            self.assertEqual(rooms_for(house, woods, one, other, hours), firsts)
            for begin, end in itertools.combinations(firsts, 2):
                self.assertLessEqual(set(path(house, begin, end)), set(firsts))
        self.assertEqual(apart_by(house, woods, one, other), stretches_of(everything))

    def test_room_with_itself(self):
        self.assertEqual(between(H, W, "a", "c", "c"), (0, 0))
        self.assertEqual(rooms_for(H, W, "c", "c", 0), ["a", "b", "c", "d"])
        self.assertEqual(rooms_for(H, W, "c", "c", 1), [])
        self.assertEqual(rooms_for(H, W, "c", "c", -1), [])
        self.assertEqual(apart_by(H, W, "c", "c"), [(0, 0)])

    def test_rooms_beside_one_another(self):
        for _, house, woods in small_cases(21, 30, 6, 9):
            for one, other in house.doors():
                self.assertEqual(apart_by(house, woods, one, other), [(-woods[other], -1), (1, woods[one])])

    def test_example(self):
        self.assertEqual(rooms_for(H6, W6, "a", "c", 2), ["b", "x"])
        self.assertEqual(rooms_for(H6, W6, "b", "d", -3), ["c", "d", "y"])
        self.assertEqual(between(H6, W6, "x", "a", "c"), (-2, 6))
        self.assertEqual(between(H6, W6, "a", "a", "c"), (3, 8))
        self.assertEqual(apart_by(H6, W6, "a", "x"), [(-4, -1), (1, 1)])
        self.assertEqual(apart_by(H6, W6, "a", "b"), [(-5, 5)])

    def test_errors(self):
        for thing in BAD_WOODS + sample_of_objects(H):
            for call, things in ((between, (0, 0, 0)), (rooms_for, (0, 0, None)), (apart_by, (0, 0))):
                self.assertIs(raised(self, BadWoods, call, H, thing, *things).thing, thing)
        for thing in sample_of_objects(H):
            for call, things in ((between, (thing, "zy", "zy")), (between, ("a", thing, "zy")),
                                 (between, ("a", "b", thing)), (rooms_for, (thing, "zy", None)),
                                 (rooms_for, ("a", thing, None)), (apart_by, (thing, "zy")), (apart_by, ("a", thing))):
                self.assertIs(raised(self, NoRoom, call, H, W, *things).thing, thing)
            if isinstance(thing, bool) or not isinstance(thing, int):
                self.assertIs(raised(self, BadHours, rooms_for, H, W, "a", "b", thing).thing, thing)
        self.assertEqual(rooms_for(H, W, "a", "b", 10 ** 30), [])

    def test_told_new(self):
        rooms_for(H, W, "c", "c", 0).clear()
        apart_by(H, W, "a", "b").clear()
        self.assertEqual(rooms_for(H, W, "c", "c", 0), ["a", "b", "c", "d"])
        self.assertEqual(apart_by(H, W, "a", "b"), [(-3, -1), (1, 2)])

    def test_great(self):
        for house in great_houses():
            woods = {room: 999999999 - at for at, room in enumerate(house.rooms())}
            one, other = house.rooms()[0], house.rooms()[-1]
            way = path(house, one, other)
            doors, most = len(way) - 1, sum(woods[room] for room in way[:-1])
            self.assertEqual(between(house, woods, one, one, other), (doors, most))
            self.assertIn(one, rooms_for(house, woods, one, other, most))
            self.assertEqual(apart_by(house, woods, one, other)[-1][1], most)


if __name__ == "__main__":
    unittest.main()
