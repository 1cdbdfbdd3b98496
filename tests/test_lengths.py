import itertools
import random
import unittest

from hearths.errors import BadFire, BadHour, BadLength, BadWoods, NoRoom
from hearths.fires import first_of, is_fire
from hearths.houses import House
from hearths.lengths import (all_lengths, burning, fire_length, length_fire, lengths_from, most_burning, short_fire,
                             too_far)
from tests.brute import all_fires, great_houses, moved, path, sample_of_objects, small_cases
from tests.test_fires import BAD_WOODS, F, H, W
from tests.test_ways import raised


def length(woods, fire):
    return max(fire[room] + woods[room] for room in fire) - min(fire.values())


class Lengths(unittest.TestCase):
    """[43]"""

    def test_hour_by_hour(self):
        for _, house, woods in small_cases(120, 25, 4):
            for _, fire in all_fires(house, woods):
                there = moved(fire, -2)
                warm = fire_length(house, woods, there)
                self.assertEqual(warm, length(woods, there))
                many = {}
                for hour in range(-4, warm + 2):
                    rooms = [room for room in house.rooms() if there[room] <= hour < there[room] + woods[room]]
                    self.assertEqual(burning(house, woods, there, hour), rooms)
                    self.assertEqual(bool(rooms), -2 <= hour < warm - 2)
                    many[hour] = len(rooms)
                most = max(many.values())
                first = min(hour for hour in many if many[hour] == most)
                self.assertEqual(most_burning(house, woods, there), (most, first))

    def test_errors(self):
        for thing in BAD_WOODS + sample_of_objects(H):
            for call, things in ((fire_length, ()), (burning, (None,)), (most_burning, ())):
                self.assertIs(raised(self, BadWoods, call, H, thing, None, *things).thing, thing)
            for call, things in ((lengths_from, (None,)), (length_fire, (None, None)), (all_lengths, ()),
                                 (short_fire, (None,)), (too_far, (None,))):
                self.assertIs(raised(self, BadWoods, call, H, thing, *things).thing, thing)
        for thing in sample_of_objects(H) + [dict(F, d=6)]:
            for call, things in ((fire_length, ()), (burning, (None,)), (most_burning, ())):
                self.assertIs(raised(self, BadFire, call, H, W, thing, *things).thing, thing)
            self.assertIs(raised(self, NoRoom, lengths_from, H, W, thing).thing, thing)
            self.assertIs(raised(self, NoRoom, length_fire, H, W, thing, None).thing, thing)
            if isinstance(thing, bool) or not isinstance(thing, int):
                self.assertIs(raised(self, BadHour, burning, H, W, F, thing).thing, thing)
            if isinstance(thing, bool) or not isinstance(thing, int) or thing < 1:
                self.assertIs(raised(self, BadLength, length_fire, H, W, "a", thing).thing, thing)
                self.assertIs(raised(self, BadLength, short_fire, H, W, thing).thing, thing)
                self.assertIs(raised(self, BadLength, too_far, H, W, thing).thing, thing)

    def test_told_new(self):
        burning(H, W, F, 6).append("x")
        self.assertEqual(burning(H, W, F, 6), ["b"])
        length_fire(H, W, "a", 5).clear()
        self.assertEqual(len(length_fire(H, W, "a", 5)), 4)
        short_fire(H, W, 5).clear()
        self.assertEqual(len(short_fire(H, W, 5)), 4)


class FromAFirstRoom(unittest.TestCase):
    """[44]"""

    def test_small_houses(self):
        for _, house, woods in small_cases(121, 50, 5):
            had = {first: set() for first in house.rooms()}
            for first, fire in all_fires(house, woods):
                had[first].add(length(woods, fire))
            for first, lengths in had.items():
                self.assertEqual(lengths_from(house, woods, first), (min(lengths), max(lengths)))
                for asked in range(1, max(lengths) + 3):
                    self.check(house, woods, first, asked, asked in lengths)
                self.assertEqual(len(lengths), max(lengths) - min(lengths) + 1)

    def check(self, house, woods, first, asked, there_is_one):
        fire = length_fire(house, woods, first, asked)
        self.assertEqual(fire is not None, there_is_one)
        if there_is_one:
            self.assertTrue(is_fire(house, woods, fire))
            self.assertEqual(list(fire), house.rooms())
            self.assertEqual(first_of(house, woods, fire), first)
            self.assertEqual((fire[first], length(woods, fire)), (0, asked))

    def test_by_doors_and_woods(self):
        for _, house, woods in small_cases(122, 30, 6):
            for first in house.rooms():
                ways = [path(house, first, room) for room in house.rooms()]
                least = max(len(rooms) - 1 + woods[rooms[-1]] for rooms in ways)
                most = max(sum(woods[room] for room in rooms) for rooms in ways)
                self.assertEqual(lengths_from(house, woods, first), (least, most))

    def test_sixty_rooms(self):
        for number, house in enumerate(great_houses()):
            chance = random.Random(number)
            for most in (3, 999999999):
                woods = {room: chance.randint(1, most) for room in house.rooms()}
                first = chance.choice(house.rooms())
                least, greatest = lengths_from(house, woods, first)
                for asked in (least, greatest, (least + greatest) // 2, least + 1, greatest - 1):
                    self.check(house, woods, first, asked, least <= asked <= greatest)
                self.check(house, woods, first, greatest + 1, False)
                self.check(house, woods, first, max(1, least - 1), least == 1)
                self.great_all(house, woods)

    def great_all(self, house, woods):
        ends = [lengths_from(house, woods, first) for first in house.rooms()]
        least, most = all_lengths(house, woods)
        self.assertEqual((least, most), (min(ends)[0], max(end for _, end in ends)))
        self.assertEqual(fire_length(house, woods, short_fire(house, woods, least)), least)
        self.assertIsNone(too_far(house, woods, least))
        if least > 1:
            one, other = too_far(house, woods, least - 1)
            together = len(path(house, one, other)) - 1 + woods[one] + woods[other]
            self.assertIn(together, (2 * least - 1, 2 * least))
            self.assertIsNone(short_fire(house, woods, least - 1))


class OverAllFirstRooms(unittest.TestCase):
    """[45]"""

    def test_small_houses(self):
        for _, house, woods in small_cases(123, 80, 5):
            lengths = {length(woods, fire) for _, fire in all_fires(house, woods)}
            self.assertEqual(all_lengths(house, woods), (min(lengths), max(lengths)))
            self.assertEqual(len(lengths), max(lengths) - min(lengths) + 1)
            for asked in range(1, max(lengths) + 2):
                fire, far = short_fire(house, woods, asked), too_far(house, woods, asked)
                self.assertTrue((fire is None) != (far is None))
                self.assertEqual(far, self.first_far(house, woods, asked))
                self.assertEqual(fire is not None, min(lengths) <= asked)
                if fire is not None:
                    self.assertTrue(is_fire(house, woods, fire))
                    self.assertEqual(list(fire), house.rooms())
                    self.assertEqual(min(fire.values()), 0)
                    self.assertLessEqual(length(woods, fire), asked)

    def first_far(self, house, woods, asked):
        for one, other in itertools.combinations_with_replacement(house.rooms(), 2):
            if len(path(house, one, other)) - 1 + woods[one] + woods[other] > 2 * asked:
                return (one, other)
        return None

    def test_one_room(self):
        house, woods = House(["a"], []), {"a": 3}
        self.assertEqual(lengths_from(house, woods, "a"), (3, 3))
        self.assertEqual(all_lengths(house, woods), (3, 3))
        self.assertEqual(too_far(house, woods, 2), ("a", "a"))
        self.assertIsNone(short_fire(house, woods, 2))
        self.assertEqual(short_fire(house, woods, 3), {"a": 0})
        self.assertIsNone(length_fire(house, woods, "a", 2))
        self.assertEqual(most_burning(house, woods, {"a": 7}), (1, 7))

    def test_example(self):
        """[52], what speaks of these"""
        self.assertEqual(lengths_from(H, W, "a"), (4, 6))
        self.assertEqual(all_lengths(H, W), (3, 6))
        self.assertEqual(too_far(H, W, 2), ("a", "b"))
        self.assertIsNone(too_far(H, W, 3))


if __name__ == "__main__":
    unittest.main()
