import itertools
import random
import unittest

from hearths.errors import BadLength, BadPrices, BadWoods
from hearths.lengths import all_lengths
from hearths.morewood import cheapest_less, cheapest_more
from tests.brute import great_houses, path, random_woods, small_cases
from tests.test_fires import H, W
from tests.wrong import FROM_ONE, WOODS, check_errors, in_turns, one_room, turned_dict


class MoreWood(unittest.TestCase):
    """[50]"""

    def test_small_houses(self):
        for chance, house, woods in small_cases(160, 60, 4, 3):
            prices = random_woods(chance, house, 4)
            for length in chance.sample(range(1, sum(woods.values()) + 3), 3):
                self.check(house, woods, prices, length)

    def check(self, house, woods, prices, length):
        rooms = house.rooms()
        more, less = [], []
        ways = [path(house, one, other) for one in rooms for other in rooms if one <= other]
        for added in itertools.product(range(length), repeat=len(rooms)):
            there = {room: woods[room] + n for room, n in zip(rooms, added)}
            if sum(added) <= length and any(sum(there[room] for room in way) >= length for way in ways):
                more.append(sum(prices[room] * n for room, n in zip(rooms, added)))
        for left in itertools.product(*[range(1, woods[room] + 1) for room in rooms]):
            if all_lengths(house, dict(zip(rooms, left)))[0] <= length:
                less.append(sum(prices[room] * (woods[room] - n) for room, n in zip(rooms, left)))
        self.judge_more(house, woods, prices, length, min(more))
        self.judge_less(house, woods, prices, length, min(less, default=None))

    def judge_more(self, house, woods, prices, length, least):
        price, told = cheapest_more(house, woods, prices, length)
        self.assertEqual(price, least)
        self.assertEqual(list(told), house.rooms())
        self.assertTrue(all(told[room] >= woods[room] for room in told))
        self.assertEqual(sum((told[room] - woods[room]) * prices[room] for room in told), price)
        self.assertGreaterEqual(all_lengths(house, told)[1], length)
        if all_lengths(house, woods)[1] >= length:
            self.assertEqual((price, told), (0, woods))

    def judge_less(self, house, woods, prices, length, least):
        told = cheapest_less(house, woods, prices, length)
        if least is None:
            self.assertIsNone(told)
            return
        price, left = told
        self.assertEqual(price, least)
        self.assertEqual(list(left), house.rooms())
        self.assertTrue(all(1 <= left[room] <= woods[room] for room in left))
        self.assertEqual(sum((woods[room] - left[room]) * prices[room] for room in left), price)
        self.assertLessEqual(all_lengths(house, left)[0], length)
        if all_lengths(house, woods)[0] <= length:
            self.assertEqual((price, left), (0, woods))

    def test_sixty_rooms(self):
        for number, house in enumerate(great_houses()):
            chance = random.Random(number)
            woods, prices = random_woods(chance, house, 999999999), random_woods(chance, house, 999999999)
            for length in (all_lengths(house, woods)[1] + chance.randint(1, 99), 999999999, 80):
                price, told = cheapest_more(house, woods, prices, length)
                self.judge_more(house, woods, prices, length, price)
                price, _ = cheapest_less(house, woods, prices, length)
                self.judge_less(house, woods, prices, length, price)

    def test_one_room(self):
        self.assertEqual(cheapest_more(one_room(), {"a": 2}, {"a": 3}, 5), (9, {"a": 5}))
        self.assertEqual(cheapest_less(one_room(), {"a": 2}, {"a": 3}, 1), (3, {"a": 1}))
        self.assertEqual(cheapest_less(one_room(), {"a": 2}, {"a": 3}, 2), (0, {"a": 2}))

    def test_errors(self):
        for call in (cheapest_more, cheapest_less):
            check_errors(self, call, (H, W, W, 5), [(1, BadWoods, WOODS), (2, BadPrices, WOODS),
                                                    (3, BadLength, FROM_ONE)])

    def test_example(self):
        """[52]"""
        prices = {room: 1 for room in "dcba"}
        price, told = cheapest_more(H, W, prices, 8)
        self.assertEqual((price, sum(told[room] for room in "abc"), all_lengths(H, told)[1]), (2, 8, 8))
        self.assertEqual(cheapest_less(H, W, prices, 2), (2, {"a": 1, "b": 2, "c": 1, "d": 1}))
        self.assertIsNone(cheapest_less(H, W, prices, 1))

    def test_in_turns(self):
        one, other = {room: 1 for room in "abcd"}, {"a": 5, "b": 4, "c": 1, "d": 2}
        in_turns(self, [lambda: cheapest_more(H, W, one, 9), lambda: cheapest_more(H, W, other, 9),
                        lambda: cheapest_more(H, turned_dict(W), turned_dict(other), 9),
                        lambda: cheapest_less(H, W, one, 2), lambda: cheapest_less(H, dict(W, a=9), other, 3)])
        woods, prices = dict(W), dict(one)
        self.assertEqual(cheapest_more(H, woods, prices, 6), (0, W))
        woods["a"] = 1
        price, told = cheapest_more(H, woods, prices, 6)
        told["a"] = 77
        self.assertEqual((price, woods["a"]), (1, 1))
        prices["a"] = prices["b"] = prices["c"] = 7
        self.assertEqual(cheapest_more(H, woods, prices, 6)[0], 1)
        self.assertEqual(cheapest_more(H, woods, prices, 6)[1], {"a": 1, "b": 3, "c": 1, "d": 2})


if __name__ == "__main__":
    unittest.main()
