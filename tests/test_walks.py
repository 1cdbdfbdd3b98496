import itertools
import random
import unittest

from hearths.errors import BadWoods, NoRoom
from hearths.toursfrom import tour_from
from hearths.walks import is_walk, shortest_walk
from tests.brute import great_houses, path, small_cases, ways_on
from tests.test_fires import H, W
from tests.test_tours import NO_TOURS
from tests.wrong import ALL, ROOMS, WOODS, check_errors, in_turns, one_room, turned_dict


def walk_by_words(house, woods, rooms):
    """Whether a list of rooms is a walk, by the words of [113]."""
    if not rooms or set(rooms) != set(house.rooms()) or rooms.index(rooms[-1]) != len(rooms) - 1:
        return False
    if any(room not in ways_on(house, last) for last, room in zip(rooms, rooms[1:])):
        return False
    for room in set(rooms) - {rooms[0]}:
        hour = rooms.index(room)
        if hour - rooms.index(rooms[hour - 1]) > woods[rooms[hour - 1]]:
            return False
    return True


def shortest_by_search(house, woods, first, most):
    """How many rooms the shortest walk has that begins with a room, hour by hour, None if none has up to most."""
    walks = [[first]]
    for many in range(1, most + 1):
        if any(walk_by_words(house, woods, walk) for walk in walks):
            return many
        states = {}
        for walk in walks:
            for room in ways_on(house, walk[-1]):
                onward = walk + [room]
                hours = tuple(onward.index(far) if far in onward else None for far in house.rooms())
                if room in walk or many - walk.index(walk[-1]) <= woods[walk[-1]]:
                    states[(room, hours)] = onward
        walks = list(states.values())
    return None


class Walks(unittest.TestCase):
    """[113]"""

    def test_all_lists_of_rooms(self):
        found = 0
        for _, house, woods in small_cases(390, 40, 4, 4):
            for many in range(7 if len(house) < 4 else 6):
                for some in itertools.product(house.rooms(), repeat=many):
                    told = walk_by_words(house, woods, list(some))
                    found += told
                    self.assertIs(is_walk(house, woods, some), told)
                    self.assertIs(is_walk(house, woods, list(some)), told)
        self.assertTrue(found > 50)

    def test_any_object(self):
        for thing in ALL + [thing for thing, _ in NO_TOURS] + ["abcd", {"a": 1, "b": 2}]:
            self.assertIs(is_walk(H, W, thing), False)
        for thing in (["a", "b", "c", "b", "d"], ("a", "b", "c", "b", "d")):
            self.assertIs(is_walk(H, W, thing), True)
        self.assertIs(is_walk(H, W, ["a", "b", "c", "b", "d", "b"]), False)
        self.assertIs(is_walk(H, dict(W, b=2), ["a", "b", "c", "b", "d"]), False)
        self.assertIs(is_walk(H, W, ["a", "b", "a", "b", "c", "b", "d"]), False)
        self.assertIs(is_walk(H, dict(W, b=5), ["a", "b", "a", "b", "c", "b", "d"]), True)
        self.assertIs(is_walk(one_room(), {"a": 1}, ["a"]), True)
        self.assertIs(is_walk(one_room(), {"a": 1}, ["a", "a"]), False)

    def test_shortest(self):
        seen = {True: 0, False: 0}
        for _, house, woods in small_cases(391, 60, 5, 7):
            for first in house.rooms():
                many = shortest_by_search(house, woods, first, 11)
                told = shortest_walk(house, woods, first)
                seen[told is None] += 1
                self.assertEqual(told is None, many is None)
                if told is not None:
                    self.assertEqual((told[0], len(told)), (first, many))
                    self.assertTrue(walk_by_words(house, woods, told))
        self.assertTrue(min(seen.values()) > 20)

    def test_tours_are_gone_by_walks(self):
        for _, house, woods in small_cases(392, 60, 6, 6):
            for first in house.rooms():
                tour = tour_from(house, woods, 1, first)
                if tour is not None:
                    walk = [first]
                    for room in tour[1:]:
                        walk += path(house, walk[-1], room)[1:]
                    self.assertTrue(is_walk(house, woods, walk))
                    self.assertLessEqual(len(shortest_walk(house, woods, first)), len(walk))

    def test_one_room(self):
        self.assertEqual(shortest_walk(one_room(), {"a": 1}, "a"), ["a"])

    def test_seven_rooms(self):
        for house in great_houses(7):
            for most in (1, 4, 12, 999999999):
                chance = random.Random(most)
                for first in house.rooms():
                    woods = {room: chance.randint(1, most) for room in house.rooms()}
                    told = shortest_walk(house, woods, first)
                    if told is not None:
                        self.assertIs(is_walk(house, woods, told), True)
                        self.assertLessEqual(len(told), 13)
                    woods = {room: 12 for room in house.rooms()}
                    far = max(len(path(house, first, room)) for room in house.rooms())
                    self.assertEqual(len(shortest_walk(house, woods, first)), 14 - far)

    def test_errors(self):
        check_errors(self, is_walk, (H, W, None), [(1, BadWoods, WOODS)])
        check_errors(self, shortest_walk, (H, W, "a"), [(1, BadWoods, WOODS), (2, NoRoom, ROOMS)])

    def test_example(self):
        self.assertIsNone(shortest_walk(H, W, "b"))

    def test_in_turns(self):
        in_turns(self, [lambda: shortest_walk(H, W, "a"), lambda: shortest_walk(H, dict(W, b=9), "b"),
                        lambda: shortest_walk(H, turned_dict(W), "a"), lambda: shortest_walk(H, W, "d"),
                        lambda: shortest_walk(H, W, "b")])
        woods = dict(W)
        self.assertEqual(len(shortest_walk(H, woods, "a")), 5)
        woods["b"] = 2
        self.assertIsNone(shortest_walk(H, woods, "a"))
        self.assertIs(is_walk(H, woods, ["a", "b", "c", "b", "d"]), False)


if __name__ == "__main__":
    unittest.main()
