import itertools
import random
import unittest

from hearths.errors import BadHours, BadOrder, BadWoods, NoFireSo
from hearths.fires import is_fire
from hearths.longorders import bounds_row, fire_lasting, longest_in_order, worth_of_row
from hearths.orders import order_fault, order_of
from tests.brute import (all_fires, all_orders, great_houses, order_by_hours, outward, random_woods, small_cases)
from tests.test_fires import H, W
from tests.test_fittings import fire_of
from tests.test_orders import ABCD, NO_ORDERS
from tests.test_ways import raised
from tests.wrong import ALL, INTEGERS, WOODS, check_errors, in_turns, one_room, turned_dict, with_lists


def worth_by_words(house, woods, order, row):
    """What a list of rooms is worth as a row of bounds, None if it is none: [135]."""
    place = {room: at for at, lot in enumerate(order) for room in lot}
    came = dict(outward(house, order[0][0]))
    if not row:
        return 0 if len(order) == 1 else None
    if any(came[room] is None for room in row) or came[row[0]] != order[0][0] or place[row[-1]] != len(order) - 1:
        return None
    worth = woods[came[row[0]]]
    for last, room in zip(row, row[1:]):
        if place[came[room]] > place[last]:
            return None
        worth += woods[came[room]] - (place[last] - place[came[room]])
    return worth


class Long(unittest.TestCase):
    """[135], [136]"""

    def test_against_all_fires(self):
        many = 0
        for _, house, woods in small_cases(450, 60, 5, 3):
            by_order = {}
            for _, fire in all_fires(house, woods):
                by_order.setdefault(repr(order_by_hours(fire)), []).append(fire)
            for order in all_orders(house.rooms()):
                fires = by_order.get(repr(order), [])
                if fires:
                    many += len(order) > 2
                    self.check(house, woods, order, fires)
        self.assertTrue(many > 100, many)

    def check(self, house, woods, order, fires):
        lasts = {max(fire.values()) for fire in fires}
        longest = longest_in_order(house, woods, order)
        self.assertEqual(longest, max(lasts))
        self.assertEqual(lasts, set(range(len(order) - 1, longest + 1)))
        row = bounds_row(house, woods, order)
        self.assertIsInstance(row, list)
        self.assertEqual(worth_by_words(house, woods, order, row), longest)
        self.assertEqual(worth_of_row(house, woods, order, row), longest)
        for hours in range(-2, longest + 3):
            so = [fire for fire in fires if max(fire.values()) == hours]
            early = {room: min(fire[room] for fire in so) for room in house.rooms()} if so else None
            self.assertEqual(fire_lasting(house, woods, order, hours), early)
            self.assertIn(early, so + [None])
        if early is not None:
            self.assertEqual(list(early), house.rooms())

    def test_all_rows(self):
        """no row of bounds is worth less, rooms that stand twice among them"""
        worths = 0
        for chance, house, woods in small_cases(451, 60, 5, 4):
            order = order_by_hours(chance.choice(all_fires(house, woods))[1])
            longest = longest_in_order(house, woods, order)
            for many in range(5):
                for row in itertools.product(house.rooms(), repeat=many):
                    worth = worth_by_words(house, woods, order, row)
                    self.assertEqual(worth_of_row(house, woods, order, row), worth)
                    worths += worth is not None
                    self.assertTrue(worth is None or worth >= longest)
        self.assertTrue(worths > 100)

    def test_worth_of_any_object(self):
        for thing in ALL + [["b", "b", "b"], ["a"], ["a", "b", "c"], ["c"], ["b"], ["b", "c", None], "bc", {"b": 1, "c": 1},
                            [["b"], ["c"]], ["b", ["c"]], ["b", "z"]]:
            self.assertIsNone(worth_of_row(H, W, ABCD, thing))
        self.assertEqual(worth_of_row(H, W, ABCD, ("b", "c")), 5)
        self.assertEqual(worth_of_row(H, W, ABCD, ["b", "c", "d"]), 5 + 3 - 1)
        self.assertEqual(worth_of_row(H, W, ABCD, ["b", "b", "c"]), 2 + 2 - 1 + 3)
        self.assertEqual(worth_of_row(one_room(), {"a": 1}, [["a"]], ()), 0)
        self.assertIsNone(worth_of_row(one_room(), {"a": 1}, [["a"]], ["a"]))

    def test_one_lot(self):
        house, woods = one_room(), {"a": 4}
        self.assertEqual((longest_in_order(house, woods, [["a"]]), bounds_row(house, woods, [["a"]])), (0, []))
        self.assertEqual([fire_lasting(house, woods, [["a"]], hours) for hours in (-1, 0, 1)], [None, {"a": 0}, None])

    def test_sixty_rooms(self):
        for number, house in enumerate(great_houses()):
            chance = random.Random(number)
            for most in (2, 9, 999999999):
                woods = random_woods(chance, house, most)
                order = order_of(house, woods, fire_of(chance, house, woods))
                longest = longest_in_order(house, woods, order)
                self.assertEqual(worth_of_row(house, woods, order, bounds_row(house, woods, order)), longest)
                for hours in {len(order) - 1, (len(order) + longest) // 2, longest}:
                    fire = fire_lasting(house, woods, order, hours)
                    self.assertTrue(is_fire(house, woods, fire))
                    self.assertEqual((min(fire.values()), max(fire.values())), (0, hours))
                    self.assertEqual(order_of(house, woods, fire), order)
                self.assertIsNone(fire_lasting(house, woods, order, longest + 1))
                self.assertIsNone(fire_lasting(house, woods, order, len(order) - 2))

    def test_errors(self):
        rows = [(1, BadWoods, WOODS), (2, BadOrder, NO_ORDERS)]
        for call in (longest_in_order, bounds_row):
            check_errors(self, call, (H, W, ABCD), rows)
        check_errors(self, worth_of_row, (H, W, ABCD, None), rows)
        check_errors(self, fire_lasting, (H, W, ABCD, 4), rows + [(3, BadHours, INTEGERS)])
        cold, late = [["a"], ["c"], ["b"], ["d"]], [["b"], ["c"], ["d"], ["a"]]
        for order in (cold, with_lists(cold), late):
            woods = dict(W, b=2)
            fault = ("late", "a", 3) if order == late else ("cold", "c")
            for call, things in ((longest_in_order, ()), (bounds_row, ()), (worth_of_row, (["b"],)), (fire_lasting, (None,))):
                error = raised(self, NoFireSo, call, H, woods, order, *things)
                self.assertEqual(error.fault, fault)
                self.assertEqual(error.fault, order_fault(H, woods, order))

    def test_example(self):
        """[140]"""
        self.assertEqual(longest_in_order(H, W, ABCD), 5)
        self.assertIn(bounds_row(H, W, ABCD), [["b", "c"], ["b", "d"]])
        for row in (["b", "c"], ["b", "d"]):
            self.assertEqual(worth_of_row(H, W, ABCD, row), 2 + 3)
        self.assertEqual(fire_lasting(H, W, ABCD, 4), {"a": 0, "b": 1, "c": 4, "d": 4})

    def test_in_turns(self):
        other = [["b"], ["a"], ["c", "d"]]
        in_turns(self, [lambda: bounds_row(H, W, ABCD), lambda: bounds_row(H, W, other), lambda: longest_in_order(H, W, other),
                        lambda: bounds_row(H, turned_dict(W), with_lists(ABCD)), lambda: fire_lasting(H, W, ABCD, 4),
                        lambda: fire_lasting(H, dict(W, b=5), ABCD, 4)])
        woods, order = dict(W), [["a"], ["b"], ["c", "d"]]
        self.assertEqual(longest_in_order(H, woods, order), 5)
        woods["b"] = 9
        self.assertEqual(longest_in_order(H, woods, order), 11)
        order[0], order[1] = order[1], order[0]
        self.assertEqual(longest_in_order(H, woods, order), 9)
        self.assertEqual(fire_lasting(H, woods, order, 7), {"a": 1, "b": 0, "c": 7, "d": 7})


if __name__ == "__main__":
    unittest.main()
