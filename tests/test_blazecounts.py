import random
import unittest
from collections import Counter
from fractions import Fraction
from math import prod

from hearths.blazecounts import blaze_at, blaze_count, blaze_number, blazes_by_fires, made_chance, mean_fires
from hearths.blazes import is_blaze, made_rooms
from hearths.errors import BadBlaze, BadNumber, BadWoods, NoRoom
from tests.brute import all_blazes, great_houses, made_in, moved, random_house, random_woods, small_cases, ways_on
from tests.test_blazes import NO_BLAZES
from tests.test_fires import F, H, W
from tests.wrong import INTEGERS, ROOMS, WOODS, check_errors, in_turns, one_room, turned_dict


class Counted(unittest.TestCase):
    """[78]"""

    def test_small_houses(self):
        for _, house, woods in small_cases(240, 80, 5, 2):
            blazes = all_blazes(house, woods)
            self.assertEqual(blaze_count(house, woods), len(blazes))
            many = Counter(len(made_in(house, blaze)) for blaze in blazes)
            self.assertEqual(blazes_by_fires(house, woods), [many[number] for number in range(1, max(many) + 1)])
            mean = Fraction(sum(number * many[number] for number in many), len(blazes))
            self.assertEqual(mean_fires(house, woods), (mean.numerator, mean.denominator))
            made = Counter(room for blaze in blazes for room in made_in(house, blaze))
            for room in house.rooms():
                chance = Fraction(made[room], len(blazes))
                self.assertEqual(made_chance(house, woods, room), (chance.numerator, chance.denominator))

    def test_all_numbers(self):
        for _, house, woods in small_cases(241, 40, 5, 2):
            rows = sorted([blaze[room] for room in house.rooms()] for blaze in all_blazes(house, woods))
            step = max(1, len(rows) // 60)
            for number in range(0, len(rows), step):
                blaze = blaze_at(house, woods, number)
                self.assertEqual(list(blaze.items()), list(zip(house.rooms(), rows[number])))
                self.assertEqual(blaze_number(house, woods, moved(blaze, -6)), number)

    def test_eight_rooms(self):
        """woods to 4, in good time"""
        for seed in range(5):
            chance = random.Random(seed)
            house = random_house(chance, 8)
            woods = {room: 4 for room in house.rooms()}
            many = blaze_count(house, woods)
            self.assertEqual(many, 9 ** 7)
            numbers = sorted([0, many - 1] + [chance.randrange(many) for _ in range(5)])
            rows = []
            for number in numbers:
                blaze = blaze_at(house, woods, number)
                self.assertIs(is_blaze(house, woods, blaze), True)
                self.assertEqual(blaze_number(house, woods, blaze), number)
                rows.append([blaze[room] for room in house.rooms()])
            self.assertEqual(rows, sorted(rows))

    def test_sixty_rooms(self):
        for number, house in enumerate(great_houses()):
            woods = random_woods(random.Random(number), house, 999999999)
            many = blaze_count(house, woods)
            self.assertEqual(many, prod(woods[one] + woods[other] + 1 for one, other in house.doors()))
            by_fires = blazes_by_fires(house, woods)
            self.assertEqual(sum(by_fires), many)
            self.assertEqual(by_fires[0], sum(woods.values()) * prod(
                woods[room] ** (len(ways_on(house, room)) - 1) for room in woods if len(ways_on(house, room)) > 1))
            mean = Fraction(sum((at + 1) * count for at, count in enumerate(by_fires)), many)
            self.assertEqual(mean_fires(house, woods), (mean.numerator, mean.denominator))
            for room in house.rooms():
                told = Fraction(prod(Fraction(woods[room] + 1, woods[room] + woods[far] + 1)
                                     for far in ways_on(house, room)))
                self.assertEqual(made_chance(house, woods, room), (told.numerator, told.denominator))

    def test_one_room(self):
        house, woods = one_room(), {"a": 3}
        self.assertEqual((blaze_count(house, woods), blazes_by_fires(house, woods)), (1, [1]))
        self.assertEqual((made_chance(house, woods, "a"), mean_fires(house, woods)), ((1, 1), (1, 1)))
        self.assertEqual((blaze_at(house, woods, 0), blaze_number(house, woods, {"a": 9})), ({"a": 0}, 0))

    def test_errors(self):
        rows = [(1, BadWoods, WOODS)]
        for call in (blaze_count, blazes_by_fires, mean_fires):
            check_errors(self, call, (H, W), rows)
        check_errors(self, blaze_at, (H, W, 149), rows + [(2, BadNumber, INTEGERS + [-1, 150, 10 ** 20])])
        check_errors(self, blaze_number, (H, W, F), rows + [(2, BadBlaze, NO_BLAZES)])
        check_errors(self, made_chance, (H, W, "a"), rows + [(2, NoRoom, ROOMS)])

    def test_example(self):
        """[82]"""
        self.assertEqual(blaze_count(H, W), 150)
        self.assertEqual(blazes_by_fires(H, W), [63, 66, 20, 1])
        self.assertEqual(made_chance(H, W, "b"), (32, 75))
        self.assertEqual(mean_fires(H, W), (259, 150))
        self.assertEqual(sum(len(made_rooms(H, W, blaze_at(H, W, number))) for number in range(150)), 259)

    def test_in_turns(self):
        other = dict(W, a=1, d=4)
        in_turns(self, [lambda: blaze_at(H, W, 77), lambda: blaze_at(H, other, 77), lambda: blazes_by_fires(H, W),
                        lambda: blaze_at(H, turned_dict(W), 77), lambda: mean_fires(H, other), lambda: mean_fires(H, W)])
        woods = dict(W)
        self.assertEqual(blaze_count(H, woods), 150)
        woods["a"] = 3
        self.assertEqual(blaze_count(H, woods), 175)


if __name__ == "__main__":
    unittest.main()
