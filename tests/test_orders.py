import itertools
import random
import unittest

from hearths.errors import BadFire, BadOrder, BadWoods
from hearths.fires import is_fire
from hearths.orders import fire_in_order, is_order, order_fault, order_of
from tests.brute import (all_fires, all_orders, great_houses, moved, order_by_hours, random_woods, small_cases, ways_on)
from tests.test_fires import F, H, W
from tests.test_fittings import fire_of
from tests.test_ways import raised
from tests.wrong import ALL, FIRES, NO_LISTS, WOODS, check_errors, in_turns, one_room, turned_dict, with_lists

ABCD = [["a"], ["b"], ["c", "d"]]
NO_ORDERS = NO_LISTS + [([], 0), ((), 0), ([["a"]], 1), ([["a", "b"], ["c"]], 2), ([["a"], ["b", "a"]], 1), ([[]], 0),
                        ([["a"], [], ["b"]], 1), ([["a"], ["a"]], 1), ([["a"], ["b", "b"]], 1), ([["b", "a"]], 0),
                        ([["a"], ["b"], ["c", "d"], []], 3), ([["a"], ["b"], ["c", "d"], ["a"]], 3), (["a", "b"], 0),
                        ([["a"], ["b", "c"], "d"], 2), ([["a", "b", "c", "z"]], 0), ([["a"], "b", ["a"]], 1)]
NO_ORDERS += [([["a"], thing, ["a"]], 1) for thing in ALL] + [([["b"], ["a", thing]], 1) for thing in ALL]


def fault_by_words(house, woods, order):
    """By the words of [134]."""
    place = {room: at for at, lot in enumerate(order) for room in lot}
    for room in [room for lot in order for room in lot][1:]:
        ahead = [far for far in ways_on(house, room) if place[far] < place[room]]
        if not ahead:
            return ("cold", room)
        if place[room] - place[ahead[0]] > woods[ahead[0]]:
            return ("late", room, place[room] - place[ahead[0]])
    return None


class Orders(unittest.TestCase):
    """[133]"""

    def test_any_object(self):
        for thing in ALL + [thing for thing, _ in NO_ORDERS] + ["abcd", {"a": 1}, [("a", "b", "c", "d"), 1]]:
            self.assertIs(is_order(H, thing), False)
        for thing in (ABCD, (("a",), ("b",), ("c", "d")), [["a", "b", "c", "d"]], with_lists(ABCD), [["d"], ["c"], ("a", "b")]):
            self.assertIs(is_order(H, thing), True)
        self.assertIs(is_order(one_room(), [["a"]]), True)

    def test_all_rows_of_lists(self):
        for _, house, _ in small_cases(440, 12, 3):
            rooms = house.rooms()
            lots = [list(lot) for many in range(len(rooms) + 1) for lot in itertools.product(rooms, repeat=many)]
            orders = all_orders(rooms)
            starts = [order[:many] for order in orders for many in range(len(order) + 1)]
            for many in range(4 if len(rooms) < 3 else 3):
                for row in itertools.product(lots, repeat=many):
                    self.assertIs(is_order(house, row), list(row) in orders)
                    if list(row) not in orders:
                        at = next((at for at in range(many) if list(row[:at + 1]) not in starts), many)
                        error = raised(self, BadOrder, order_fault, house, {room: 1 for room in rooms}, list(row))
                        self.assertEqual(error.index, at)

    def test_order_of(self):
        for chance, house, woods in small_cases(441, 60, 6, 3):
            for _, fire in chance.choices(all_fires(house, woods), k=5):
                order = order_of(house, woods, moved(fire, chance.randint(-9, 9)))
                self.assertEqual(order, order_by_hours(fire))
                self.assertTrue(all(isinstance(lot, list) for lot in order))
                self.assertTrue(is_order(house, order))


class Fires(unittest.TestCase):
    """[134]"""

    def test_against_all_fires(self):
        seen = {None: 0, "cold": 0, "late": 0}
        for _, house, woods in small_cases(442, 50, 5, 3):
            by_order = {}
            for _, fire in all_fires(house, woods):
                by_order.setdefault(repr(order_by_hours(fire)), []).append(fire)
            for order in all_orders(house.rooms()):
                fires = by_order.get(repr(order), [])
                told, fault = fire_in_order(house, woods, order), order_fault(house, woods, order)
                self.assertTrue((told is None) != (fault is None))
                self.assertEqual(told is None, not fires)
                self.assertEqual(fault, fault_by_words(house, woods, order))
                seen[fault and fault[0]] += 1
                if fires:
                    self.check(house, order, told, fires)
        self.assertTrue(min(seen.values()) > 50, seen)

    def check(self, house, order, told, fires):
        self.assertIn(told, fires)
        self.assertEqual(list(told.items()), [(room, at) for room in house.rooms()
                                              for at, lot in enumerate(order) if room in lot])
        self.assertEqual(max(told.values()), min(max(fire.values()) for fire in fires))

    def test_sixty_rooms(self):
        for number, house in enumerate(great_houses()):
            chance = random.Random(number)
            for most in (3, 999999999):
                woods = random_woods(chance, house, most)
                order = order_of(house, woods, fire_of(chance, house, woods))
                told = fire_in_order(house, woods, order)
                self.assertTrue(is_fire(house, woods, told))
                self.assertEqual(order_of(house, woods, told), order)
                order.reverse()
                self.assertIsNone(fire_in_order(house, woods, order))
                self.assertEqual(order_fault(house, woods, order), fault_by_words(house, woods, order))

    def test_edges(self):
        self.assertEqual(fire_in_order(one_room(), {"a": 1}, [["a"]]), {"a": 0})
        self.assertIsNone(order_fault(one_room(), {"a": 1}, [["a"]]))
        self.assertEqual(order_fault(H, W, [["a", "b", "c", "d"]]), ("cold", "b"))
        self.assertEqual(order_fault(H, W, [["a", "c"], ["b"], ["d"]]), ("cold", "c"))
        self.assertEqual(order_fault(H, W, [["b"], ["c", "d"], ["a"]]), None)
        self.assertEqual(order_fault(H, dict(W, b=1), [["b"], ["c", "d"], ["a"]]), ("late", "a", 2))
        for order in (with_lists(ABCD), tuple(ABCD)):
            self.assertEqual(fire_in_order(H, W, order), {"a": 0, "b": 1, "c": 2, "d": 2})
        self.assertIsInstance(order_fault(H, W, [["a", "b", "c", "d"]]), tuple)

    def test_errors(self):
        for call in (fire_in_order, order_fault):
            check_errors(self, call, (H, W, ABCD), [(1, BadWoods, WOODS), (2, BadOrder, NO_ORDERS)])
        check_errors(self, order_of, (H, W, F), [(1, BadWoods, WOODS), (2, BadFire, FIRES)])

    def test_example(self):
        """[140]"""
        self.assertEqual(order_of(H, W, F), [["a"], ["b"], ["c"], ["d"]])
        self.assertEqual(fire_in_order(H, W, ABCD), {"a": 0, "b": 1, "c": 2, "d": 2})
        self.assertEqual(order_fault(H, W, [["a"], ["c"], ["b"], ["d"]]), ("cold", "c"))
        self.assertEqual(order_fault(H, dict(W, b=1), [["a"], ["b"], ["c"], ["d"]]), ("late", "d", 2))

    def test_in_turns(self):
        in_turns(self, [lambda: order_of(H, W, F), lambda: order_of(H, W, dict(F, d=7)), lambda: fire_in_order(H, W, ABCD),
                        lambda: fire_in_order(H, turned_dict(W), [["b"], ["a"], ["c", "d"]]),
                        lambda: order_fault(H, dict(W, b=1), [["b"], ["c", "d"], ["a"]])])
        woods, order = dict(W), [["a"], ["b"], ["c"], ["d"]]
        self.assertIsNone(order_fault(H, woods, order))
        woods["b"] = 1
        self.assertEqual(order_fault(H, woods, order), ("late", "d", 2))
        order[2].append(order.pop()[0])
        self.assertEqual(fire_in_order(H, woods, order), {"a": 0, "b": 1, "c": 2, "d": 2})
        order[0], order[1] = order[1], order[0]
        self.assertEqual(order_fault(H, woods, order), ("late", "c", 2))
        self.assertEqual(order, [["b"], ["a"], ["c", "d"]])


if __name__ == "__main__":
    unittest.main()
