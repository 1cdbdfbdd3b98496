import itertools
import random
import unittest

from hearths.errors import BadPrices, BadWoods
from hearths.fewestwatchers import cheapest_watchers, fewest_watchers
from hearths.telling import can_be_spared, tell_first
from tests.brute import all_fires, great_houses, house_of, random_woods, row_house, small_cases, ways_on
from tests.test_fires import H, W
from tests.test_telling import tell_by_fires
from tests.test_twohours import H6, W6
from tests.wrong import ALL, WOODS, check_errors, in_turns, one_room, turned_dict


def all_lists(house):
    rooms = house.rooms()
    return [list(some) for many in range(len(rooms) + 1) for some in itertools.combinations(rooms, many)]


class Fewest(unittest.TestCase):
    """[95]"""

    def test_by_all_fires(self):
        for chance, house, woods in small_cases(310, 60, 5, 3):
            fires = all_fires(house, woods)
            self.check(chance, house, woods, lambda some: tell_by_fires(fires, some))

    def test_by_all_lists(self):
        for most in (1, 2, 3, 9):
            for chance, house, woods in small_cases(311 + most, 50, 8, most):
                self.check(chance, house, woods, lambda some: tell_first(house, woods, some))

    def check(self, chance, house, woods, tells):
        telling = [some for some in all_lists(house) if tells(some)]
        told = fewest_watchers(house, woods)
        self.assertEqual(len(told), min(len(some) for some in telling))
        self.assertIn(told, telling)
        for most in (0, 1, 9):
            prices = {room: chance.randint(0, most) for room in house.rooms()}
            price, some = cheapest_watchers(house, woods, prices)
            self.assertEqual(price, min(sum(prices[room] for room in row) for row in telling))
            self.assertEqual(price, sum(prices[room] for room in some))
            self.assertIn(some, telling)
        for row in telling:
            if len(house) > 1:
                self.assertTrue(all(room in row for room in house.rooms()
                                    if woods[room] >= 3 or len(ways_on(house, room)) == 1))

    def test_facts(self):
        for many in (2, 3, 10, 60):
            house = row_house(many)
            self.assertEqual(fewest_watchers(house, {room: 1 for room in house.rooms()}),
                             [house.rooms()[0], house.rooms()[-1]])
        self.assertEqual(fewest_watchers(one_room(), {"a": 5}), [])
        self.assertEqual(cheapest_watchers(one_room(), {"a": 5}, {"a": 0}), (0, []))
        self.assertEqual(fewest_watchers(house_of("ab"), {"a": 1, "b": 1}), ["a", "b"])

    def test_prices_of_zero(self):
        prices = {room: 0 for room in H.rooms()}
        price, some = cheapest_watchers(H, W, prices)
        self.assertEqual(price, 0)
        self.assertTrue(tell_first(H, W, some))
        self.assertIsInstance(cheapest_watchers(H, W, prices), tuple)
        self.assertIsInstance(some, list)

    def test_sixty_rooms(self):
        for number, house in enumerate(great_houses()):
            for most in (1, 2, 3, 999999999):
                chance = random.Random(number)
                woods, prices = random_woods(chance, house, most), random_woods(chance, house, 999999999)
                fewest = fewest_watchers(house, woods)
                price, cheapest = cheapest_watchers(house, woods, prices)
                self.assertEqual(price, sum(prices[room] for room in cheapest))
                self.assertLessEqual(price, sum(prices[room] for room in fewest))
                self.assertLessEqual(len(fewest), len(cheapest))
                for some in (fewest, cheapest):
                    self.assertEqual(some, sorted(set(some)))
                    self.assertTrue(tell_first(house, woods, some))
                    self.assertEqual(can_be_spared(house, woods, some), [])

    def test_errors(self):
        check_errors(self, fewest_watchers, (H, W), [(1, BadWoods, WOODS)])
        prices = ALL + [dict(W, a=-1), dict(W, b=True), dict(W, c=None), {"a": 1, "b": 1, "c": 1}, dict(W, x=1)]
        check_errors(self, cheapest_watchers, (H, W, W), [(1, BadWoods, WOODS), (2, BadPrices, prices)])
        cheapest_watchers(H, W, {"a": 0, "b": 0, "c": 0, "d": 0})

    def test_example(self):
        """[98]"""
        self.assertEqual(fewest_watchers(H6, W6), ["a", "b", "c", "d", "x", "y"])

    def test_in_turns(self):
        ones = {room: 1 for room in H.rooms()}
        in_turns(self, [lambda: fewest_watchers(H, W), lambda: fewest_watchers(H, ones), lambda: fewest_watchers(H6, W6),
                        lambda: fewest_watchers(H, turned_dict(W)), lambda: cheapest_watchers(H, ones, W),
                        lambda: cheapest_watchers(H, turned_dict(ones), turned_dict(W))])
        woods, prices = dict(W), dict(W)
        self.assertEqual(cheapest_watchers(H, woods, prices), (7, ["a", "b", "c", "d"]))
        woods["b"] = 1
        self.assertEqual(cheapest_watchers(H, woods, prices), (4, ["a", "c", "d"]))
        prices["a"] = 0
        self.assertEqual(cheapest_watchers(H, woods, prices), (2, ["a", "c", "d"]))


if __name__ == "__main__":
    unittest.main()
