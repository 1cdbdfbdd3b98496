import itertools
import random
import unittest
from collections import Counter
from fractions import Fraction

from hearths.errors import BadWoods, NoDoor, NoRoom
from hearths.firechances import (ahead_chances, door_chance, first_chances, gap_chances, hour_chances, mean_hours)
from tests.brute import all_fires, great_houses, outward, path, random_woods, small_cases, ways_on
from tests.test_fires import H, W
from tests.test_ways import raised
from tests.wrong import ROOMS, WOODS, check_errors, in_turns, one_room, turned_dict


def pair(fraction):
    return (Fraction(fraction).numerator, Fraction(fraction).denominator)


def chances_by(hours):
    """The list of the items of a dict of chances, by a list of what is as likely."""
    return [(key, pair(Fraction(many, len(hours)))) for key, many in sorted(Counter(hours).items())]


def add_up(chances):
    return sum(Fraction(over, under) for over, under in chances)


class Chances(unittest.TestCase):
    """[114], [115], [116]"""

    def test_small_houses(self):
        for _, house, woods in small_cases(400, 60, 5, 3):
            fires = all_fires(house, woods)
            first = first_chances(house, woods)
            self.assertEqual(list(first.items()), chances_by([first for first, _ in fires]))
            means = mean_hours(house, woods)
            self.assertEqual(list(means), house.rooms())
            for room in house.rooms():
                hours = [fire[room] for _, fire in fires]
                self.assertEqual(list(hour_chances(house, woods, room).items()), chances_by(hours))
                self.assertEqual(means[room], pair(Fraction(sum(hours), len(hours))))
            for one, other in itertools.product(house.rooms(), repeat=2):
                self.check_two(house, woods, fires, one, other)

    def check_two(self, house, woods, fires, one, other):
        gaps = [fire[other] - fire[one] for _, fire in fires]
        told = gap_chances(house, woods, one, other)
        self.assertEqual(list(told.items()), chances_by(gaps))
        self.assertEqual(add_up(told.values()), 1)
        ahead = tuple(pair(Fraction(len([gap for gap in gaps if sign(gap)]), len(gaps))) for sign in (
            lambda gap: gap > 0, lambda gap: gap == 0, lambda gap: gap < 0))
        self.assertEqual(ahead_chances(house, woods, one, other), ahead)
        if other in ways_on(house, one):
            gone = [other in path(house, first, other) and one in path(house, first, other) for first, _ in fires]
            self.assertEqual(door_chance(house, woods, one, other), pair(Fraction(sum(gone), len(fires))))

    def test_one_room(self):
        house, woods = one_room(), {"a": 5}
        self.assertEqual((first_chances(house, woods), hour_chances(house, woods, "a")), ({"a": (1, 1)}, {0: (1, 1)}))
        self.assertEqual(mean_hours(house, woods), {"a": (0, 1)})
        self.assertEqual(gap_chances(house, woods, "a", "a"), {0: (1, 1)})
        self.assertEqual(ahead_chances(H, W, "b", "b"), ((0, 1), (1, 1), (0, 1)))

    def test_twenty_rooms(self):
        for number, house in enumerate(great_houses(20)):
            chance = random.Random(number)
            for woods in ({room: 12 for room in house.rooms()}, random_woods(chance, house, 12)):
                means = mean_hours(house, woods)
                one, other = house.rooms()[0], chance.choice(house.rooms()[1:])
                for room in (one, other):
                    told = hour_chances(house, woods, room)
                    self.assertEqual(add_up(told.values()), 1)
                    mean = sum(hour * Fraction(*told[hour]) for hour in told)
                    self.assertEqual(pair(mean), means[room])
                gaps = gap_chances(house, woods, one, other)
                self.assertEqual(list(gaps), sorted(gaps))
                self.assertEqual(add_up(gaps.values()), 1)
                self.assertEqual(sum(gap * Fraction(*gaps[gap]) for gap in gaps),
                                 Fraction(*means[other]) - Fraction(*means[one]))
                self.assertEqual(gap_chances(house, woods, other, one), {-gap: gaps[gap] for gap in gaps})
                ahead = ahead_chances(house, woods, one, other)
                self.assertEqual(add_up(ahead), 1)
                self.assertEqual(ahead_chances(house, woods, other, one), ahead[::-1])

    def test_sixty_rooms(self):
        for number, house in enumerate(great_houses()):
            woods = random_woods(random.Random(number), house, 999999999)
            total = sum(woods.values())
            self.assertEqual(first_chances(house, woods), {room: pair(Fraction(woods[room], total)) for room in woods})
            means = mean_hours(house, woods)
            for room in house.rooms()[::20]:
                mean = Fraction(0)
                for first in house.rooms():
                    way = path(house, first, room)[:-1]
                    mean += Fraction(woods[first], total) * sum(Fraction(woods[far] + 1, 2) for far in way)
                self.assertEqual(means[room], pair(mean))
            for one, other in house.doors()[::10]:
                side = [room for room, came in outward(house, one) if other not in path(house, one, room)]
                told = door_chance(house, woods, one, other)
                self.assertEqual(told, pair(Fraction(sum(woods[room] for room in side), total)))
                self.assertEqual(add_up([told, door_chance(house, woods, other, one)]), 1)

    def test_errors(self):
        rows = [(1, BadWoods, WOODS)]
        check_errors(self, first_chances, (H, W), rows)
        check_errors(self, mean_hours, (H, W), rows)
        check_errors(self, hour_chances, (H, W, "d"), rows + [(2, NoRoom, ROOMS)])
        for call in (gap_chances, ahead_chances, door_chance):
            check_errors(self, call, (H, W, "a", "b"), rows + [(2, NoRoom, ROOMS), (3, NoRoom, ROOMS)])
        for one, other in (("a", "c"), ("b", "b"), ("d", "a")):
            error = raised(self, NoDoor, door_chance, H, W, one, other)
            self.assertEqual((error.one, error.other), (one, other))

    def test_example(self):
        """[118]"""
        self.assertEqual(first_chances(H, W), {"a": (2, 7), "b": (3, 7), "c": (1, 7), "d": (1, 7)})
        self.assertEqual(door_chance(H, W, "b", "a"), (5, 7))
        self.assertEqual(hour_chances(H, W, "d"), {0: (1, 7), 1: (1, 7), 2: (5, 21), 3: (2, 7), 4: (1, 7), 5: (1, 21)})
        self.assertEqual(mean_hours(H, W)["d"], (16, 7))
        self.assertEqual(ahead_chances(H, W, "a", "c"), ((10, 21), (4, 21), (1, 3)))

    def test_in_turns(self):
        other = dict(W, b=1)
        in_turns(self, [lambda: hour_chances(H, W, "d"), lambda: hour_chances(H, other, "d"), lambda: mean_hours(H, W),
                        lambda: gap_chances(H, W, "a", "d"), lambda: gap_chances(H, turned_dict(other), "a", "d"),
                        lambda: first_chances(H, other), lambda: mean_hours(H, other)])
        woods = dict(W)
        self.assertEqual(first_chances(H, woods)["a"], (2, 7))
        woods["a"] = 9
        self.assertEqual(first_chances(H, woods)["a"], (9, 14))
        self.assertEqual(door_chance(H, woods, "a", "b"), (9, 14))


if __name__ == "__main__":
    unittest.main()
