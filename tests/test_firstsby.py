import itertools
import random
import unittest

from hearths.errors import BadSayings, BadWoods, NoFire, NoRoom
from hearths.firstsby import count_by, firsts_by, least_core, shortest_clash, wood_wanted
from hearths.sayings import early_fire
from tests.brute import fires_from, great_houses, house_of, path, random_house, random_woods, small_cases
from tests.test_fires import H, W
from tests.test_sayings import BAD_SAYINGS, GOOD, all_keeping, keeps, random_sayings
from tests.test_ways import raised
from tests.wrong import ROOMS, WOODS, check_errors, in_turns, one_room, turned_dict, with_lists


class FirstsBy(unittest.TestCase):
    """[59]"""

    def test_small_houses(self):
        some = 0
        for chance, house, woods in small_cases(190, 200, 5):
            sayings = random_sayings(chance, house, woods, 3, 2)
            firsts = [first for first in house.rooms() if all_keeping(house, woods, first, sayings)]
            self.assertEqual(firsts_by(house, woods, sayings), firsts)
            some += 0 < len(firsts) < len(house)
            self.check_together(house, firsts)
        self.assertGreater(some, 30)

    def check_together(self, house, firsts):
        for one, other in itertools.combinations(firsts, 2):
            self.assertTrue(set(path(house, one, other)) <= set(firsts))

    def test_thirty_rooms(self):
        for number, house in enumerate(great_houses(30)):
            chance = random.Random(number)
            woods = random_woods(chance, house, 4 if number % 2 else 999999999)
            sayings = random_sayings(chance, house, woods, 30, 9, 0)
            firsts = firsts_by(house, woods, sayings)
            self.assertTrue(firsts)
            self.check_together(house, firsts)
            for first in house.rooms():
                self.assertEqual(early_fire(house, woods, first, sayings) is not None, first in firsts)

    def test_errors_and_edges(self):
        check_errors(self, firsts_by, (H, W, GOOD), [(1, BadWoods, WOODS), (2, BadSayings, BAD_SAYINGS)])
        self.assertEqual(firsts_by(H, W, []), ["a", "b", "c", "d"])
        self.assertEqual(firsts_by(one_room(), {"a": 1}, []), ["a"])
        self.assertEqual(firsts_by(H, W, [("a", "b", 0, 0)]), [])


class WoodWanted(unittest.TestCase):
    """[60]"""

    def test_small_houses(self):
        told = {}
        for chance, house, woods in small_cases(191, 200, 5, 2):
            sayings = random_sayings(chance, house, dict(woods, **{house.rooms()[0]: 5}), 3, 1, 0.1)
            for first in house.rooms():
                for room in house.rooms():
                    least = next((wood for wood in range(1, 16)
                                  if early_fire(house, dict(woods, **{room: wood}), first, sayings)), None)
                    self.assertEqual(wood_wanted(house, woods, first, sayings, room), least)
                    told[least] = told.get(least, 0) + 1
        self.assertTrue(all(told.get(least, 0) > 5 for least in (None, 1, 2, 3, 4)))

    def test_great_hours(self):
        sayings = [("a", "c", 999999999, None)]
        self.assertEqual(wood_wanted(H, W, "a", sayings, "a"), 999999996)
        self.assertEqual(wood_wanted(H, dict(W, a=999999999), "a", sayings, "b"), 1)
        self.assertEqual(wood_wanted(H, W, "b", sayings, "b"), 1000000000)
        self.assertIsNone(wood_wanted(H, W, "b", sayings, "a"))
        for number, house in enumerate(great_houses(30)):
            chance = random.Random(number)
            woods = random_woods(chance, house, 999999999)
            sayings = random_sayings(chance, house, woods, 30, 9, 0)
            first = firsts_by(house, woods, sayings)[0]
            for room in house.rooms():
                least = wood_wanted(house, woods, first, sayings, room)
                self.assertTrue(1 <= least <= woods[room])
                self.assertIsNotNone(early_fire(house, dict(woods, **{room: least}), first, sayings))
                if least > 1:
                    self.assertIsNone(early_fire(house, dict(woods, **{room: least - 1}), first, sayings))

    def test_errors(self):
        check_errors(self, wood_wanted, (H, W, "a", GOOD, "b"),
                     [(1, BadWoods, WOODS), (2, NoRoom, ROOMS), (3, BadSayings, BAD_SAYINGS), (4, NoRoom, ROOMS)])

    def test_example(self):
        """[64]"""
        sayings = GOOD + [("b", "c", None, 1)]
        self.assertEqual(wood_wanted(H, W, "a", sayings, "a"), 3)
        self.assertIsNone(wood_wanted(H, W, "a", sayings, "b"))
        self.assertEqual(firsts_by(H, W, [("a", "c", 0, 0)]), ["b", "d"])


def lists_of(many):
    return [list(indexes) for size in range(many + 1) for indexes in itertools.combinations(range(many), size)]


class Shortest(unittest.TestCase):
    """[61]"""

    def test_small_houses(self):
        clashes, cores = {}, {}
        for chance, house, woods in small_cases(192, 200, 5):
            sayings = random_sayings(chance, house, woods, 6, 1, 0.1)
            first = chance.choice(house.rooms())
            kept = {tuple(core): [fire for fire in fires_from(house, woods, first)
                                  if all(keeps(fire, sayings[at]) for at in core)] for core in lists_of(len(sayings))}
            fires = kept[tuple(range(len(sayings)))]
            clash = next((core for core in lists_of(len(sayings)) if not kept[tuple(core)]), None)
            self.assertEqual(shortest_clash(house, woods, first, sayings), clash)
            clashes[clash and len(clash)] = clashes.get(clash and len(clash), 0) + 1
            if fires:
                core = next(core for core in lists_of(len(sayings)) if kept[tuple(core)] == fires)
                self.assertEqual(least_core(house, woods, first, sayings), core)
                cores[len(core)] = cores.get(len(core), 0) + 1
            else:
                raised(self, NoFire, least_core, house, woods, first, sayings)
        self.assertTrue(all(clashes.get(many) for many in (None, 1, 2)))
        self.assertTrue(all(cores.get(many) for many in (0, 1, 2, 3)))

    def test_first_of_the_shortest(self):
        two = [("a", "b", 1, 1), ("a", "b", 1, 1), ("a", "b", 2, 2)]
        self.assertEqual(shortest_clash(H, W, "a", two), [0, 2])
        self.assertEqual(shortest_clash(H, W, "a", two[::-1]), [0, 1])
        self.assertEqual(shortest_clash(H, W, "a", two + [("a", "b", 3, 3)]), [3])
        self.assertIsNone(shortest_clash(H, W, "a", two[:2]))
        self.assertEqual(least_core(H, W, "a", two[:2]), [0])
        self.assertEqual(least_core(H, W, "a", [("a", "b", 1, None), ("b", "c", 3, 3), ("b", "c", 3, None)]), [1])
        self.assertEqual(least_core(H, W, "a", [("b", "c", 2, None), ("b", "c", 3, 3), ("a", "c", 4, None),
                                                ("b", "c", 3, None)]), [1])
        self.assertEqual(least_core(H, W, "a", []), [])
        self.assertIsNone(shortest_clash(H, W, "a", []))
        clash = [("a", "d", 4, None), ("d", "c", 0, 0), ("b", "c", None, 1)]
        self.assertEqual(shortest_clash(H, W, "a", clash), [0, 1, 2])

    def test_thirty_rooms(self):
        """eight sayings, in good time"""
        for number, house in enumerate(great_houses(30)):
            chance = random.Random(number)
            woods = random_woods(chance, house, 5)
            sayings = random_sayings(chance, house, woods, 0, 9, 0)
            while len(sayings) < 8:
                sayings += random_sayings(chance, house, woods, 8 - len(sayings), 1, 0.2)
            first = house.rooms()[0]
            clash = shortest_clash(house, woods, first, sayings)
            if clash is None:
                core = least_core(house, woods, first, sayings)
                self.assertEqual(early_fire(house, woods, first, [sayings[at] for at in core]),
                                 early_fire(house, woods, first, sayings))
            else:
                self.assertIsNone(early_fire(house, woods, first, [sayings[at] for at in clash]))
                for at in clash:
                    self.assertIsNotNone(early_fire(house, woods, first,
                                                    [sayings[index] for index in clash if index != at]))

    def test_errors(self):
        rows = [(1, BadWoods, WOODS), (2, NoRoom, ROOMS), (3, BadSayings, BAD_SAYINGS)]
        for call in (shortest_clash, least_core, count_by):
            check_errors(self, call, (H, W, "a", GOOD), rows)
        raised(self, NoFire, least_core, H, W, "a", [("a", "b", 0, 0)])


class CountBy(unittest.TestCase):
    """[62]"""

    def test_small_houses(self):
        for chance, house, woods in small_cases(193, 200, 6):
            sayings = random_sayings(chance, house, woods, 4, 2)
            for first in house.rooms():
                self.assertEqual(count_by(house, woods, first, sayings),
                                 len(all_keeping(house, woods, first, sayings)))

    def test_eight_rooms(self):
        """woods to six, in good time"""
        for seed in range(6):
            chance = random.Random(seed)
            house = random_house(chance, 8)
            woods = {room: 6 for room in house.rooms()}
            first = house.rooms()[0]
            self.assertEqual(count_by(house, woods, first, []), 6 ** 7)
            sayings = random_sayings(chance, house, woods, 30, 9, 0)
            if seed < 2:
                self.assertEqual(count_by(house, woods, first, sayings),
                                 len(all_keeping(house, woods, first, sayings)))
        house = house_of("ab ac ad ae af ag ah")
        woods = {room: 6 for room in house.rooms()}
        sayings = [(one, other, 0, None) for one, other in itertools.combinations("bcdefgh", 2)]
        self.assertEqual(count_by(house, woods, "a", sayings), 792)

    def test_edges(self):
        self.assertEqual(count_by(one_room(), {"a": 3}, "a", []), 1)
        self.assertEqual(count_by(H, W, "a", [("a", "b", 0, 0)]), 0)
        self.assertEqual(count_by(H, W, "a", [("a", "b", None, None)]), 18)

    def test_in_turns(self):
        in_turns(self, [lambda: count_by(H, W, "a", GOOD), lambda: count_by(H, dict(W, b=9), "a", GOOD),
                        lambda: firsts_by(H, W, GOOD), lambda: firsts_by(H, turned_dict(W), with_lists(GOOD)),
                        lambda: least_core(H, W, "a", GOOD), lambda: shortest_clash(H, W, "a", GOOD + [("a", "b", 9, 9)]),
                        lambda: wood_wanted(H, W, "a", GOOD, "a")])
        woods, sayings = dict(W), [list(saying) for saying in GOOD]
        self.assertEqual(count_by(H, woods, "a", sayings), 3)
        woods["b"] = 1
        self.assertEqual(count_by(H, woods, "a", sayings), 0)
        sayings[1][2] = 3
        self.assertEqual(count_by(H, woods, "a", sayings), 1)


if __name__ == "__main__":
    unittest.main()
