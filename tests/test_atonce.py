import itertools
import random
import unittest

from hearths.atonce import at_once, crowded_fire, most_at_once, not_at_once
from hearths.errors import BadSome, BadWoods
from hearths.fires import is_fire
from tests.brute import all_fires, great_houses, random_woods, small_cases
from tests.test_fires import H, W
from tests.wrong import SOME, WOODS, check_errors, in_turns, one_room, turned_dict


def lots_at_once(house, woods):
    """All sets of rooms that burn at one hour of some fire."""
    lots = set()
    for _, fire in all_fires(house, woods):
        for hour in set(fire.values()):
            lots.add(frozenset(room for room in fire if fire[room] <= hour < fire[room] + woods[room]))
    return lots


def burns_then(woods, fire, room):
    return fire[room] <= 0 < fire[room] + woods[room]


class AtOnce(unittest.TestCase):
    """[48]"""

    def test_small_houses(self):
        for chance, house, woods in small_cases(150, 70, 6, 2):
            lots = lots_at_once(house, woods)
            for many in range(len(house) + 1):
                for some in itertools.combinations(house.rooms(), many):
                    told = list(some)
                    chance.shuffle(told)
                    self.check(house, woods, told, lots)

    def check(self, house, woods, some, lots):
        fire, clash = at_once(house, woods, some), not_at_once(house, woods, some)
        self.assertTrue((fire is None) != (clash is None))
        self.assertEqual(at_once(house, woods, tuple(sorted(some))), fire)
        if fire is not None:
            self.assertTrue(is_fire(house, woods, fire))
            self.assertEqual(list(fire), house.rooms())
            self.assertTrue(all(burns_then(woods, fire, room) for room in some))
        shortest = [list(rooms) for many in range(len(some) + 1)
                    for rooms in itertools.combinations(sorted(some), many)
                    if not any(set(rooms) <= lot for lot in lots)]
        self.assertEqual(clash, shortest[0] if shortest else None)
        self.assertTrue(clash is None or 2 <= len(clash) <= 4)

    def test_four_rooms(self):
        """lists of four rooms come about, too"""
        long = 0
        for _, house, woods in small_cases(151, 400, 9, 2):
            clash = not_at_once(house, woods, house.rooms())
            if clash is not None and len(clash) == 4:
                long += 1
                self.assertIsNone(at_once(house, woods, clash))
                for room in clash:
                    self.assertIsNotNone(at_once(house, woods, [far for far in clash if far != room]))
        self.assertGreater(long, 0)

    def test_great_houses(self):
        for number, house in enumerate(great_houses()):
            for most in (2, 4, 999999999):
                chance = random.Random(number)
                woods = random_woods(chance, house, most)
                some = chance.sample(house.rooms(), 12)
                fire, clash = at_once(house, woods, some), not_at_once(house, woods, some)
                self.assertTrue((fire is None) != (clash is None))
                if fire is not None:
                    self.assertTrue(all(burns_then(woods, fire, room) for room in some))
                else:
                    self.assertIsNone(at_once(house, woods, clash))

    def test_errors(self):
        for call in (at_once, not_at_once):
            check_errors(self, call, (H, W, ["b", "a"]), [(1, BadWoods, WOODS), (2, BadSome, SOME)])

    def test_nobody(self):
        self.assertTrue(is_fire(H, W, at_once(H, W, [])))
        self.assertIsNone(not_at_once(H, W, []))


class MostAtOnce(unittest.TestCase):
    """[49]"""

    def test_small_houses(self):
        for _, house, woods in small_cases(152, 150, 6, 3):
            most = max(len(lot) for lot in lots_at_once(house, woods))
            self.assertEqual(most_at_once(house, woods), most)
            self.check(house, woods, crowded_fire(house, woods), most)

    def check(self, house, woods, fire, most):
        self.assertTrue(is_fire(house, woods, fire))
        self.assertEqual(list(fire), house.rooms())
        self.assertEqual(sum(burns_then(woods, fire, room) for room in fire), most)

    def by_ages(self, house, woods):
        """By the words of IT HOLDS."""
        near = {room: [far for door in house.doors() if room in door for far in door if far != room]
                for room in house.rooms()}
        known = {}

        def burning(room, came, age):
            if age < 0:
                return 0
            if (room, came, age) not in known:
                many = 1 if age < woods[room] else 0
                for far in near[room]:
                    if far != came:
                        many += max(burning(far, room, age - step) for step in range(1, woods[room] + 1))
                known[(room, came, age)] = many
            return known[(room, came, age)]

        return max(burning(room, None, age) for room in near for age in range(sum(woods.values()) + 1))

    def test_twenty_rooms(self):
        for number, house in enumerate(great_houses(20)):
            for most in (2, 20):
                woods = random_woods(random.Random(number), house, most)
                many = most_at_once(house, woods)
                self.check(house, woods, crowded_fire(house, woods), many)
                if most == 2:
                    self.assertEqual(many, self.by_ages(house, woods))

    def test_by_ages(self):
        for _, house, woods in small_cases(153, 40, 9, 4):
            self.assertEqual(most_at_once(house, woods), self.by_ages(house, woods))

    def test_one_room_and_errors(self):
        self.assertEqual(most_at_once(one_room(), {"a": 1}), 1)
        self.assertEqual(crowded_fire(one_room(), {"a": 1}), {"a": 0})
        self.assertEqual(at_once(one_room(), {"a": 1}, ["a"]), {"a": 0})
        for call in (most_at_once, crowded_fire):
            check_errors(self, call, (H, W), [(1, BadWoods, WOODS)])

    def test_example(self):
        """[52]"""
        self.assertIsNone(not_at_once(H, W, ["a", "b", "c", "d"]))
        self.assertEqual(most_at_once(H, W), 4)
        woods = dict(W, b=1)
        self.assertEqual(most_at_once(H, woods), 3)
        self.assertEqual(not_at_once(H, woods, ["a", "b", "c", "d"]), ["b", "c"])

    def test_in_turns(self):
        other = dict(W, b=1)
        in_turns(self, [lambda: crowded_fire(H, W), lambda: crowded_fire(H, turned_dict(W)), lambda: most_at_once(H, W),
                        lambda: crowded_fire(H, other), lambda: not_at_once(H, other, ["a", "b", "c"]),
                        lambda: at_once(H, W, ["b", "a"]), lambda: at_once(H, W, ("a", "b"))])
        woods, some = dict(W), ["c", "b"]
        self.assertIsNone(not_at_once(H, woods, some))
        woods["b"] = 1
        self.assertEqual(not_at_once(H, woods, some), ["b", "c"])
        self.assertEqual(some, ["c", "b"])
        self.assertEqual(most_at_once(H, woods), 3)


if __name__ == "__main__":
    unittest.main()
