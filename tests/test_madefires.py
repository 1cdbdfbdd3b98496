import random
import unittest

from hearths.blazes import is_blaze, made_rooms
from hearths.errors import BadMade, BadWoods, NoRoom
from hearths.madefires import made_blaze, made_hours, made_late
from tests.brute import (all_blazes, great_houses, made_in, moved, outward, path, random_woods, small_cases)
from tests.test_fires import H, W
from tests.wrong import ALL, BOOKS, ROOMS, WOODS, check_errors, in_turns, one_room, turned_dict

BAD_MADE = BOOKS + [thing for thing in ALL if thing == {}]


def random_made(chance, house, woods, most):
    """Hours of some rooms, most of them such that they can all be made."""
    fire = {house.rooms()[0]: 0}
    for room, came in outward(house, house.rooms()[0])[1:]:
        fire[room] = fire[came] + chance.randint(-woods[room], woods[came])
    rooms = chance.sample(house.rooms(), chance.randint(1, min(most, len(house))))
    return {room: fire[room] + chance.randint(-1, 1) for room in rooms}


def late_ones(house, woods, made):
    return [(one, other) for one in made for other in made if one != other
            and made[other] > made[one] + sum(woods[room] for room in path(house, one, other)[:-2])]


class MadeFires(unittest.TestCase):
    """[79]"""

    def test_small_houses(self):
        seen = {}
        for chance, house, woods in small_cases(250, 100, 5, 2):
            blazes = [(made_in(house, blaze), blaze) for blaze in all_blazes(house, woods)]
            for turn in range(6):
                made = random_made(chance, house, woods, 4)
                if turn < 3:
                    rooms, blaze = chance.choice(blazes)
                    made = {room: blaze[room] + 5 for room in rooms}
                there = []
                for rooms, blaze in blazes:
                    told = moved(blaze, made[rooms[0]] - blaze[rooms[0]]) if rooms == sorted(made) else None
                    if told and all(told[room] == hour for room, hour in made.items()):
                        there.append(told)
                seen[(bool(there), len(made))] = seen.get((bool(there), len(made)), 0) + 1
                self.check(house, woods, made, there)
        self.assertTrue(all(seen.get((kind, many), 0) > 15 for kind in (True, False) for many in (2, 3)))

    def check(self, house, woods, made, there):
        blaze, pair = made_blaze(house, woods, made), made_late(house, woods, made)
        self.assertTrue((blaze is None) != (pair is None))
        self.assertEqual(blaze is not None, bool(there))
        self.assertEqual(pair, min(late_ones(house, woods, made), default=None))
        if blaze is not None:
            self.assertIn(blaze, there)
            self.assertEqual(list(blaze), house.rooms())
        for room in house.rooms():
            hours = {told[room] for told in there}
            self.assertEqual(made_hours(house, woods, made, room), (min(hours), max(hours)) if hours else None)
            self.assertTrue(not hours or len(hours) == max(hours) - min(hours) + 1)

    def test_sixty_rooms(self):
        kinds = {True: 0, False: 0}
        for number, house in enumerate(great_houses()):
            for most in (3, 999999999):
                chance = random.Random(number)
                woods = random_woods(chance, house, most)
                for many in (1, 4, 20):
                    rooms = chance.sample(house.rooms(), many)
                    for hours in (0, most // 3 + 1):
                        made = {room: chance.randint(0, hours) for room in rooms}
                        kinds[self.check_great(house, woods, made)] += 1
        self.assertTrue(min(kinds.values()) > 10)

    def check_great(self, house, woods, made):
        blaze, pair = made_blaze(house, woods, made), made_late(house, woods, made)
        self.assertTrue((blaze is None) != (pair is None))
        self.assertEqual(pair, min(late_ones(house, woods, made), default=None))
        if blaze is None:
            self.assertIsNone(made_hours(house, woods, made, house.rooms()[0]))
            return False
        self.assertIs(is_blaze(house, woods, blaze), True)
        self.assertEqual(made_rooms(house, woods, blaze), sorted(made))
        self.assertTrue(all(blaze[room] == hour for room, hour in made.items()))
        earliest = {room: made_hours(house, woods, made, room)[0] for room in house.rooms()}
        self.assertIs(is_blaze(house, woods, earliest), True)
        self.assertEqual(made_rooms(house, woods, earliest), sorted(made))
        for room in house.rooms():
            most = min(made[one] + sum(woods[here] for here in path(house, one, room)[:-1]) for one in made)
            self.assertEqual(made_hours(house, woods, made, room)[1], most)
        return True

    def test_edges(self):
        self.assertEqual(made_blaze(one_room(), {"a": 1}, {"a": 7}), {"a": 7})
        self.assertEqual(made_hours(one_room(), {"a": 1}, {"a": 7}, "a"), (7, 7))
        self.assertEqual(made_late(H, W, {"a": 0, "b": 1}), ("a", "b"))
        self.assertEqual(made_late(H, W, {"a": 1, "b": 0}), ("b", "a"))
        self.assertEqual(made_blaze(H, W, {"a": 0, "b": 0}), {"a": 0, "b": 0, "c": 3, "d": 3})
        everywhere = {room: 4 for room in "abcd"}
        self.assertEqual(made_blaze(H, W, everywhere), everywhere)

    def test_errors(self):
        rows = [(1, BadWoods, WOODS), (2, BadMade, BAD_MADE)]
        for call in (made_blaze, made_late):
            check_errors(self, call, (H, W, {"a": 0}), rows)
        check_errors(self, made_hours, (H, W, {"a": 0}, "b"), rows + [(3, NoRoom, ROOMS)])

    def test_example(self):
        """[82]"""
        self.assertEqual(made_late(H, W, {"a": 0, "c": 3}), ("a", "c"))
        self.assertEqual(made_hours(H, W, {"a": 0, "c": 2}, "d"), (3, 5))

    def test_in_turns(self):
        made, other = {"a": 0, "c": 2}, {"d": 1}
        in_turns(self, [lambda: made_blaze(H, W, made), lambda: made_blaze(H, W, other),
                        lambda: made_blaze(H, turned_dict(W), turned_dict(made)), lambda: made_hours(H, W, made, "d"),
                        lambda: made_blaze(H, dict(W, b=7), made), lambda: made_late(H, W, {"a": 0, "c": 3})])
        told, woods = {"a": 0, "c": 2}, dict(W)
        self.assertIsNone(made_late(H, woods, told))
        told["c"] = 3
        self.assertEqual(made_late(H, woods, told), ("a", "c"))
        woods["a"] = 3
        self.assertIsNone(made_late(H, woods, told))


if __name__ == "__main__":
    unittest.main()
