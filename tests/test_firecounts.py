import random
import unittest
from collections import Counter

from hearths.errors import BadHours, BadWoods, NoRoom
from hearths.fires import is_fire
from hearths.firecounts import count_fires, count_from, count_lit_by, fire_lit_at, last_counts
from hearths.houses import House
from tests.brute import all_fires, great_houses, path, sample_of_objects, small_cases, star_house, ways_on
from tests.test_fires import BAD_WOODS, H, W
from tests.test_ways import raised


class HowMany(unittest.TestCase):
    """[34]"""

    def test_small_houses(self):
        for _, house, woods in small_cases(90, 60, 6):
            begun = Counter(first for first, _ in all_fires(house, woods))
            self.assertEqual(count_fires(house, woods), sum(begun.values()))
            for room in house.rooms():
                self.assertEqual(count_from(house, woods, room), begun[room])

    def test_great_houses(self):
        for house in great_houses():
            woods = {room: 999999999 - at for at, room in enumerate(house.rooms())}
            product = 1
            for room, wood in woods.items():
                product *= wood ** len(ways_on(house, room))
            for wood in woods.values():
                self.assertEqual(product % wood, 0)
                product //= wood
            self.assertEqual(count_fires(house, woods), sum(woods.values()) * product)
            for room, wood in woods.items():
                self.assertEqual(count_from(house, woods, room), wood * product)

    def test_one_room(self):
        house = House(["a"], [])
        self.assertEqual(count_fires(house, {"a": 7}), 1)
        self.assertEqual(count_from(house, {"a": 7}, "a"), 1)

    def test_example(self):
        self.assertEqual(count_fires(H, W), 63)
        self.assertEqual(count_from(H, W, "b"), 27)

    def test_errors(self):
        for thing in BAD_WOODS + sample_of_objects(H):
            for call, things in ((count_fires, ()), (count_from, (None,)), (last_counts, ()), (count_lit_by, (None,)),
                                 (fire_lit_at, (None,))):
                self.assertIs(raised(self, BadWoods, call, H, thing, *things).thing, thing)
        for thing in sample_of_objects(H):
            self.assertIs(raised(self, NoRoom, count_from, H, W, thing).thing, thing)
            if isinstance(thing, bool) or not isinstance(thing, int):
                self.assertIs(raised(self, BadHours, count_lit_by, H, W, thing).thing, thing)
                self.assertIs(raised(self, BadHours, fire_lit_at, H, W, thing).thing, thing)


class LastLit(unittest.TestCase):
    """[40]"""

    def test_small_houses(self):
        for _, house, woods in small_cases(91, 80, 5, 4):
            counts = Counter(max(fire.values()) for _, fire in all_fires(house, woods))
            told = last_counts(house, woods)
            self.assertEqual(list(told.items()), sorted(counts.items()))
            self.assertEqual(list(told), list(range(min(counts), max(counts) + 1)))
            for hours in range(-2, max(counts) + 3):
                by_then = sum(many for hour, many in counts.items() if hour <= hours)
                self.assertEqual(count_lit_by(house, woods, hours), by_then)
                self.check_fire(house, woods, hours, hours in counts)

    def check_fire(self, house, woods, hours, there_is_one):
        fire = fire_lit_at(house, woods, hours)
        if not there_is_one:
            self.assertIsNone(fire)
            return
        self.assertTrue(is_fire(house, woods, fire))
        self.assertEqual((min(fire.values()), max(fire.values())), (0, hours))
        self.assertEqual(list(fire), house.rooms())

    def test_ends(self):
        for _, house, woods in small_cases(92, 40, 6):
            ways = [path(house, one, other) for one in house.rooms() for other in house.rooms()]
            told = list(last_counts(house, woods))
            self.assertEqual(told[0], max(len(rooms) for rooms in ways) // 2)
            self.assertEqual(told[-1], max(sum(woods[room] for room in rooms[:-1]) for rooms in ways))

    def test_thirty_rooms(self):
        for number, house in enumerate(great_houses(30)):
            chance = random.Random(number)
            woods = {room: chance.randint(1, 12) for room in house.rooms()}
            told = last_counts(house, woods)
            self.assertEqual(sum(told.values()), count_fires(house, woods))
            self.assertEqual(list(told), list(range(min(told), max(told) + 1)))
            middle = (min(told) + max(told)) // 2
            lit = sum(many for hour, many in told.items() if hour <= middle)
            self.assertEqual(count_lit_by(house, woods, middle), lit)
            for hours in list(told)[::9] + [max(told) + 1, min(told) - 1]:
                self.check_fire(house, woods, hours, hours in told)

    def test_star(self):
        house = star_house(30)
        woods = {room: 12 for room in house.rooms()}
        self.assertEqual(last_counts(house, woods)[1], 1)
        self.assertEqual(count_lit_by(house, woods, 12), 12 ** 29 + 29 * sum(k ** 28 for k in range(12)))

    def test_example(self):
        self.assertEqual(last_counts(H, W), {1: 1, 2: 10, 3: 29, 4: 18, 5: 5})

    def test_one_room(self):
        house, woods = House(["a"], []), {"a": 3}
        self.assertEqual(last_counts(house, woods), {0: 1})
        self.assertEqual([count_lit_by(house, woods, hours) for hours in (-1, 0, 1)], [0, 1, 1])
        self.assertEqual([fire_lit_at(house, woods, hours) for hours in (-1, 0, 1)], [None, {"a": 0}, None])

    def test_told_new(self):
        last_counts(H, W).clear()
        self.assertEqual(len(last_counts(H, W)), 5)


if __name__ == "__main__":
    unittest.main()
