import random
import unittest
from math import comb

from hearths.brands import least_brands, order_within
from hearths.errors import BadMany, BadWoods, NoRoom
from hearths.ordercounts import count_orders, count_orders_from, orders_from
from hearths.orders import is_order, order_fault
from hearths.toursfrom import tour_from
from tests.brute import (all_fires, all_orders, great_houses, house_of, order_by_hours, random_house, random_woods,
                         row_house, small_cases, star_house)
from tests.test_fires import H, W
from tests.test_orders import fault_by_words
from tests.wrong import FROM_ONE, ROOMS, WOODS, check_errors, in_turns, one_room, turned_dict


def ways_into_lots(rooms, lots):
    """T(k, m) of [137]: all ways less those that leave a lot empty."""
    return sum((-1) ** gone * comb(lots, gone) * (lots - gone) ** rooms for gone in range(lots + 1))


class Counted(unittest.TestCase):
    """[137], [138]"""

    def test_all_rows_of_lots(self):
        for chance, house, woods in small_cases(460, 60, 5, 4):
            if chance.random() < 0.2:
                woods = {room: 999999999 for room in woods}
            orders = [order for order in all_orders(house.rooms()) if fault_by_words(house, woods, order) is None]
            self.assertEqual(count_orders(house, woods), len(orders))
            for first in house.rooms():
                told = sorted(order for order in orders if order[0] == [first])
                self.assertEqual(count_orders_from(house, woods, first), len(told))
                self.assertEqual(orders_from(house, woods, first), told)

    def test_by_all_fires(self):
        for _, house, woods in small_cases(461, 40, 6, 3):
            orders = {repr(order_by_hours(fire)) for _, fire in all_fires(house, woods)}
            self.assertEqual(count_orders(house, woods), len(orders))

    def test_stars(self):
        for many in (1, 2, 5, 12, 30):
            house = star_house(many + 1)
            center = house.rooms()[(many + 1) // 2]
            for wood in (1, 2, 3, 10, 30, 999999999):
                woods = {room: 7 if room != center else wood for room in house.rooms()}
                told = count_orders_from(house, woods, center)
                self.assertEqual(told, sum(ways_into_lots(many, lots) for lots in range(1, min(many, wood) + 1)))
                other = [room for room in house.rooms() if room != center][-1]
                least = sum(ways_into_lots(many - 1, lots) for lots in range(0, min(many, wood) + 1))
                self.assertEqual(count_orders_from(house, woods, other), least)
                if many > 1:
                    self.assertEqual(count_orders(house, woods), told + many * least)

    def test_rows(self):
        """of a row with wood enough: both sides go on by themselves, some lots being common"""
        for many in (1, 2, 3, 10, 30):
            house = row_house(many)
            for wood in (many, 999999999):
                woods = {room: wood for room in house.rooms()}
                for at, first in enumerate(house.rooms()):
                    left, right = at, many - 1 - at
                    told = sum(comb(left + right - both, both) * comb(left + right - 2 * both, left - both)
                               for both in range(min(left, right) + 1))
                    self.assertEqual(count_orders_from(house, woods, first), told)
            ones = {room: 1 for room in house.rooms()}
            self.assertEqual(count_orders(house, ones), many)

    def test_rows_with_little_wood(self):
        house = row_house(30)
        for wood in (2, 5, 12):
            chance = random.Random(wood)
            woods = random_woods(chance, house, wood)
            for first in chance.sample(house.rooms(), 4):
                self.assertEqual(count_orders_from(house, woods, first), self.on_a_row(house, woods, first))
            count_orders(house, woods)

    def on_a_row(self, house, woods, first):
        """By how far both sides are, and how many lots ago each went on."""
        rooms = house.rooms()
        at = rooms.index(first)
        counts, done = {(at, 0, at, 0): 1}, 0
        while counts:
            further = {}
            for (left, ago, right, late), ways in counts.items():
                if left == 0 and right == len(rooms) - 1:
                    done += ways
                for goes, follows in ((True, False), (False, True), (True, True)):
                    if goes and (left == 0 or ago + 1 > woods[rooms[left]]):
                        continue
                    if follows and (right == len(rooms) - 1 or late + 1 > woods[rooms[right]]):
                        continue
                    key = ((left - 1, 0) if goes else (left, ago + 1)) + ((right + 1, 0) if follows else (right, late + 1))
                    further[key] = further.get(key, 0) + ways
            counts = further
        return done

    def test_eight_rooms(self):
        for seed in range(6):
            house = random_house(random.Random(seed), 8)
            for most in (2, 4, 999999999):
                woods = random_woods(random.Random(seed), house, most)
                self.assertEqual(count_orders(house, woods),
                                 sum(count_orders_from(house, woods, first) for first in house.rooms()))

    def test_five_rooms(self):
        for house in great_houses(5):
            woods = {room: 999999999 for room in house.rooms()}
            for first in house.rooms():
                orders = orders_from(house, woods, first)
                self.assertEqual(len(orders), count_orders_from(house, woods, first))
                self.assertEqual(orders, sorted(orders))
                self.assertTrue(all(order_fault(house, woods, order) is None for order in orders))

    def test_one_room(self):
        house, woods = one_room(), {"a": 3}
        self.assertEqual((count_orders_from(house, woods, "a"), count_orders(house, woods)), (1, 1))
        self.assertEqual(orders_from(house, woods, "a"), [[["a"]]])
        self.assertEqual((order_within(house, woods, 1), least_brands(house, woods)), ([["a"]], 1))

    def test_errors(self):
        rows = [(1, BadWoods, WOODS)]
        check_errors(self, count_orders, (H, W), rows)
        for call in (count_orders_from, orders_from):
            check_errors(self, call, (H, W, "b"), rows + [(2, NoRoom, ROOMS)])
        check_errors(self, least_brands, (H, W), rows)
        check_errors(self, order_within, (H, W, 1), rows + [(2, BadMany, FROM_ONE)])

    def test_example(self):
        """[140]"""
        self.assertEqual((count_orders_from(H, W, "a"), count_orders_from(H, W, "b"), count_orders(H, W)), (3, 13, 22))
        lots = [len(order) - 1 for order in orders_from(H, W, "b")]
        self.assertEqual([lots.count(many) for many in (1, 2, 3)], [1, 6, 6])
        self.assertEqual(orders_from(H, W, "a"), [[["a"], ["b"], ["c"], ["d"]], [["a"], ["b"], ["c", "d"]],
                                                  [["a"], ["b"], ["d"], ["c"]]])
        self.assertEqual(least_brands(H, W), 1)

    def test_in_turns(self):
        other = dict(W, b=1)
        in_turns(self, [lambda: orders_from(H, W, "b"), lambda: orders_from(H, other, "b"), lambda: count_orders(H, W),
                        lambda: order_within(H, W, 1), lambda: order_within(H, other, 2), lambda: count_orders(H, other),
                        lambda: order_within(H, turned_dict(W), 1), lambda: least_brands(H, other)])
        woods = dict(W)
        self.assertEqual(count_orders(H, woods), 22)
        woods["b"] = 1
        self.assertEqual((count_orders(H, woods), least_brands(H, woods)), (4, 2))
        woods["b"] = 2
        self.assertEqual((count_orders(H, woods), least_brands(H, woods)), (16, 1))


class Brands(unittest.TestCase):
    """[139]"""

    def test_all_rows_of_lots(self):
        seen = {}
        for _, house, woods in small_cases(462, 80, 6, 3):
            orders = {repr(order_by_hours(fire)): order_by_hours(fire) for _, fire in all_fires(house, woods)}
            least = min(max(len(lot) for lot in order) for order in orders.values())
            self.assertEqual(least_brands(house, woods), least)
            seen[least] = seen.get(least, 0) + 1
            for many in range(1, len(house) + 2):
                told = order_within(house, woods, many)
                self.assertEqual(told is None, many < least)
                if told is not None:
                    self.check(house, woods, many, told)
        self.assertTrue(seen[1] > 10 and seen[2] > 3, seen)

    def check(self, house, woods, many, told):
        self.assertTrue(is_order(house, told))
        self.assertIsNone(order_fault(house, woods, told))
        self.assertTrue(max(len(lot) for lot in told) <= many)

    def test_more_brands(self):
        for wood in (1, 2, 3, 7):
            star = star_house(8)
            woods = {room: wood for room in star.rooms()}
            self.assertEqual(least_brands(star, woods), -(-6 // wood))
        two = house_of("ab bc bd ae ef eg")
        self.assertEqual(least_brands(two, {room: 1 for room in "abcdefg"}), 2)
        self.assertEqual(least_brands(two, dict({room: 1 for room in "abcdefg"}, b=2, e=2)), 1)

    def test_tours(self):
        for _, house, woods in small_cases(463, 60, 6, 4):
            if any(tour_from(house, woods, 0, first) for first in house.rooms()):
                self.assertEqual(least_brands(house, woods), 1)

    def test_eight_rooms(self):
        for seed in range(8):
            house = random_house(random.Random(seed), 8)
            for most in (1, 2, 4, 999999999):
                woods = random_woods(random.Random(seed), house, most)
                least = least_brands(house, woods)
                self.check(house, woods, least, order_within(house, woods, least))
                self.check(house, woods, 999999999, order_within(house, woods, 999999999))
                if least > 1:
                    self.assertIsNone(order_within(house, woods, least - 1))


if __name__ == "__main__":
    unittest.main()
