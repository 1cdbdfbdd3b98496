import itertools
import random
import unittest

from hearths.errors import BadSome, BadWatchers, BadWoods, NoRoom
from hearths.fires import first_of, is_fire
from hearths.slacks import alike_fires, alike_rooms, kept_apart, slack
from tests.brute import all_fires, great_houses, path, random_woods, small_cases, ways_on
from tests.test_fires import H, W
from tests.test_twohours import H6, W6
from tests.test_ways import raised
from tests.wrong import ALL, NO_LISTS, ROOMS, SOME, WOODS, check_errors, in_turns, one_room, turned_dict


def slack_by_words(house, woods, watchers, room, some):
    """By the words of [92]."""
    if room in watchers:
        return 0
    told = []
    for far in ways_on(house, room):
        if far not in some and any(far in path(house, room, one) for one in watchers):
            told.append(woods[room] - 1 + slack_by_words(house, woods, watchers, far, [room]))
    return min(told, default=None)


def apart_by_words(house, woods, watchers, one, other):
    rooms = path(house, one, other)
    slacks = [slack_by_words(house, woods, watchers, room, rooms[max(0, at - 1):at + 2])
              for at, room in enumerate(rooms)]
    for near, far in itertools.combinations(range(len(rooms)), 2):
        if None not in (slacks[near], slacks[far]) and slacks[near] + slacks[far] < 2 * (far - near):
            return (rooms[near], rooms[far])
    return None


def look(fire, watchers):
    """What is seen of a fire, moved to the hour 0 of the first watcher: fires look alike if they can be moved so."""
    return tuple(fire[room] - fire[watchers[0]] for room in watchers)


def random_watchers(chance, house):
    watchers = [room for room in house.rooms() if chance.random() < 0.6]
    chance.shuffle(watchers)
    return watchers


class Slacks(unittest.TestCase):
    """[92]"""

    def test_small_houses(self):
        for chance, house, woods in small_cases(290, 60, 6, 4):
            watchers = random_watchers(chance, house)
            for room in house.rooms():
                near = ways_on(house, room)
                for many in range(len(near) + 1):
                    for some in itertools.permutations(near, many):
                        told = slack(house, woods, watchers, room, list(some))
                        self.assertEqual(told, slack_by_words(house, woods, watchers, room, some))
                        self.assertEqual(slack(house, woods, tuple(sorted(watchers)), room, some), told)

    def test_edges(self):
        self.assertIsNone(slack(H, W, [], "b", []))
        self.assertEqual(slack(H, W, ["b"], "b", ["a", "c", "d"]), 0)
        self.assertIsNone(slack(H, W, ["a"], "b", ["a"]))
        self.assertEqual(slack(H, W, ["a"], "b", []), 2)
        self.assertEqual(slack(H, W, ["a"], "d", []), 2)
        self.assertEqual(slack(H, dict(W, d=4), ["a", "c"], "d", []), 5)
        self.assertIsNone(slack(one_room(), {"a": 3}, [], "a", []))
        self.assertEqual(slack(one_room(), {"a": 3}, ["a"], "a", []), 0)

    def test_errors(self):
        bad = [(thing, index) for thing, index in SOME]
        rows = [(1, BadWoods, WOODS), (2, BadWatchers, bad), (3, NoRoom, ROOMS)]
        some = NO_LISTS + [(["c", thing, "c"], 1) for thing in ALL] + [(["a", "b"], 1), (("d", "d"), 1), (["x"], 0),
                                                                      (["a", "c", "d", "b"], 3), (["c", "a", "c"], 2)]
        check_errors(self, slack, (H, W, ["a"], "b", ["c"]), rows + [(4, BadSome, some)])
        self.assertEqual(raised(self, BadSome, slack, H, W, [], "a", ["b", "c"]).index, 1)
        for call in (alike_fires, kept_apart):
            check_errors(self, call, (H, W, ["a"], "b", "c"), rows + [(4, NoRoom, ROOMS)])
        check_errors(self, alike_rooms, (H, W, ["a"], "b"), rows)

    def test_example(self):
        """[98]"""
        watchers = ["a", "b", "c", "d"]
        self.assertEqual(slack(H6, W6, watchers, "x", ["y"]), 3)
        self.assertEqual(slack(H6, W6, watchers, "y", ["x"]), 2)
        self.assertEqual(alike_rooms(H6, W6, watchers, "x"), ["a", "b", "x", "y"])
        self.assertEqual(kept_apart(H6, W6, watchers, "x", "c"), ("x", "c"))


class Alike(unittest.TestCase):
    """[93]"""

    def test_small_houses(self):
        seen = {True: 0, False: 0}
        for chance, house, woods in small_cases(291, 120, 5, 3):
            watchers = random_watchers(chance, house)
            looks = {first: set() for first in house.rooms()}
            for first, fire in all_fires(house, woods):
                looks[first].add(look(fire, watchers))
            for one in house.rooms():
                alike = [other for other in house.rooms() if looks[one] & looks[other]]
                self.assertEqual(alike_rooms(house, woods, watchers, one), alike)
                for first, second in itertools.combinations(alike, 2):
                    self.assertTrue(set(path(house, first, second)) <= set(alike))
                for other in house.rooms():
                    seen[other in alike] += one != other
                    self.check(house, woods, watchers, one, other, other in alike)
        self.assertTrue(min(seen.values()) > 100)

    def check(self, house, woods, watchers, one, other, there):
        fires, apart = alike_fires(house, woods, watchers, one, other), kept_apart(house, woods, watchers, one, other)
        self.assertTrue((fires is None) != (apart is None))
        self.assertEqual(fires is not None, there)
        self.assertEqual(apart, apart_by_words(house, woods, watchers, one, other))
        self.assertEqual(alike_fires(house, woods, tuple(sorted(watchers)), one, other), fires)
        if fires is not None:
            self.judge(house, woods, watchers, one, other, fires)

    def judge(self, house, woods, watchers, one, other, fires):
        self.assertIsInstance(fires, tuple)
        for first, fire in zip((one, other), fires):
            self.assertTrue(is_fire(house, woods, fire))
            self.assertEqual(first_of(house, woods, fire), first)
            self.assertEqual(list(fire), house.rooms())
        self.assertTrue(all(fires[0][room] == fires[1][room] for room in watchers))
        if one == other:
            self.assertEqual(fires[0], fires[1])

    def test_nobody_watched(self):
        for _, house, woods in small_cases(292, 20, 6):
            for one in house.rooms():
                self.assertEqual(alike_rooms(house, woods, [], one), house.rooms())
                for other in house.rooms():
                    self.check(house, woods, [], one, other, True)

    def test_all_watched(self):
        for _, house, woods in small_cases(293, 20, 6):
            for one in house.rooms():
                self.assertEqual(alike_rooms(house, woods, house.rooms(), one), [one])
                for other in house.rooms():
                    self.check(house, woods, house.rooms(), one, other, one == other)

    def test_pair_is_new(self):
        one, other = alike_fires(H, W, ["a"], "b", "b")
        one["a"] = 99
        self.assertNotEqual(other["a"], 99)

    def test_sixty_rooms(self):
        seen = {True: 0, False: 0}
        for number, house in enumerate(great_houses()):
            for most in (4, 30, 999999999):
                chance = random.Random(number)
                woods = random_woods(chance, house, most)
                watchers = chance.sample(house.rooms(), 12)
                for _ in range(4):
                    one = chance.choice(house.rooms())
                    alike = alike_rooms(house, woods, watchers, one)
                    self.assertIn(one, alike)
                    for other in chance.sample(house.rooms(), 6) + alike[:3]:
                        seen[other in alike] += one != other
                        fires = alike_fires(house, woods, watchers, one, other)
                        self.assertEqual(fires is not None, other in alike)
                        self.assertEqual(kept_apart(house, woods, watchers, one, other) is None, other in alike)
                        if fires is not None:
                            self.judge(house, woods, watchers, one, other, fires)
        self.assertTrue(min(seen.values()) > 20)

    def test_in_turns(self):
        watchers = ["a", "b", "c", "d"]
        in_turns(self, [lambda: alike_fires(H6, W6, watchers, "x", "y"), lambda: alike_rooms(H6, W6, watchers, "x"),
                        lambda: alike_fires(H6, turned_dict(W6), watchers[::-1], "x", "y"),
                        lambda: alike_rooms(H6, W6, ["a", "c"], "x"), lambda: alike_rooms(H6, dict(W6, x=1), watchers, "x"),
                        lambda: slack(H6, W6, watchers, "x", ["y"]), lambda: alike_fires(H6, W6, ["a"], "x", "c")])
        told, woods = ["a", "b", "c", "d"], dict(W6)
        self.assertEqual(alike_rooms(H6, woods, told, "x"), ["a", "b", "x", "y"])
        woods["y"] = 4
        woods["x"] = 9
        self.assertEqual(alike_rooms(H6, woods, told, "x"), ["a", "b", "c", "d", "x", "y"])
        told.append("y")
        self.assertEqual(alike_rooms(H6, woods, told, "x"), ["a", "b", "x", "y"])
        self.assertEqual(told, ["a", "b", "c", "d", "y"])


if __name__ == "__main__":
    unittest.main()
