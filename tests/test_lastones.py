import random
import unittest

from hearths.errors import BadWoods, NoRoom
from hearths.fires import first_of, is_fire
from hearths.lastones import last_fire, last_ones, outlasting
from tests.brute import fires_from, great_houses, path, random_woods, small_cases
from tests.test_fires import H, W
from tests.wrong import ROOMS, WOODS, check_errors, in_turns, one_room, turned_dict


class LastOnes(unittest.TestCase):
    """[46]"""

    def test_small_houses(self):
        for _, house, woods in small_cases(130, 80, 5):
            some_last = set()
            for first in house.rooms():
                fires = list(fires_from(house, woods, first))
                for room in house.rooms():
                    later = [far for far in house.rooms()
                             if all(fire[far] + woods[far] > fire[room] + woods[room] for fire in fires)]
                    is_last = any(all(fire[far] + woods[far] <= fire[room] + woods[room] for far in fire)
                                  for fire in fires)
                    self.check(house, woods, first, room, later, is_last)
                    some_last |= {room} if is_last else set()
            self.assertEqual(last_ones(house, woods), sorted(some_last))

    def check(self, house, woods, first, room, later, is_last):
        fire, out = last_fire(house, woods, first, room), outlasting(house, woods, first, room)
        self.assertEqual(out, later[0] if later else None)
        self.assertEqual(fire is not None, is_last)
        self.assertTrue((fire is None) != (out is None))
        if fire is not None:
            self.assertTrue(is_fire(house, woods, fire))
            self.assertEqual(list(fire), house.rooms())
            self.assertEqual((first_of(house, woods, fire), fire[first]), (first, 0))
            self.assertTrue(all(fire[far] + woods[far] <= fire[room] + woods[room] for far in fire))

    def test_by_doors_and_woods(self):
        """by the words of IT HOLDS, also in houses of sixty rooms"""
        houses = [(house, woods) for _, house, woods in small_cases(131, 20, 8, 6)]
        houses += [(house, random_woods(random.Random(number), house, most))
                   for number, house in enumerate(great_houses()) for most in (5, 999999999)]
        for house, woods in houses:
            chance = random.Random(len(house))
            for _ in range(5):
                first, room = chance.choice(house.rooms()), chance.choice(house.rooms())
                rooms = path(house, first, room)
                later = []
                for far in house.rooms():
                    on = [here for here in path(house, far, room) if here in rooms]
                    off = len(path(house, far, on[0])) - 1
                    if off + woods[far] > sum(woods[here] for here in on):
                        later.append(far)
                self.check(house, woods, first, room, later, not later)

    def test_sixty_rooms(self):
        for number, house in enumerate(great_houses()):
            woods = random_woods(random.Random(number), house, 4)
            last = last_ones(house, woods)
            self.assertTrue(last)
            for room in house.rooms():
                can = any(outlasting(house, woods, first, room) is None for first in house.rooms()[::7])
                self.assertTrue(room in last or not can)

    def test_one_room_and_errors(self):
        self.assertEqual(last_fire(one_room(), {"a": 2}, "a", "a"), {"a": 0})
        self.assertIsNone(outlasting(one_room(), {"a": 2}, "a", "a"))
        self.assertEqual(last_ones(one_room(), {"a": 2}), ["a"])
        for call in (last_fire, outlasting):
            check_errors(self, call, (H, W, "a", "b"), [(1, BadWoods, WOODS), (2, NoRoom, ROOMS), (3, NoRoom, ROOMS)])
        check_errors(self, last_ones, (H, W), [(1, BadWoods, WOODS)])

    def test_example(self):
        """[52]: from "a" all but a can be out last: outlasting of it is "b" """
        self.assertEqual(outlasting(H, W, "a", "a"), "b")
        self.assertIsNone(last_fire(H, W, "a", "a"))
        for room in "bcd":
            self.assertIsNone(outlasting(H, W, "a", room))

    def test_in_turns(self):
        other = dict(W, a=9, d=4)
        in_turns(self, [lambda: last_ones(H, W), lambda: last_ones(H, other), lambda: last_fire(H, W, "a", "b"),
                        lambda: last_fire(H, turned_dict(W), "a", "b"), lambda: last_fire(H, other, "a", "b")])
        woods = dict(W)
        self.assertIsNone(last_fire(H, woods, "a", "a"))
        woods["a"] = 9
        self.assertEqual(last_fire(H, woods, "a", "a"), {"a": 0, "b": 1, "c": 2, "d": 2})


if __name__ == "__main__":
    unittest.main()
