import itertools
import random
import unittest

from hearths.errors import BadBook, NoRoom
from hearths.firstrooms import early_from, late_from
from hearths.stretches import apart_pairs, apart_worth, fewest_hours
from tests.brute import great_houses, house_of, random_book, random_woods, small_cases
from tests.test_backwoods import some_fits, stretches_by_words
from tests.test_fires import H, W
from tests.wrong import ALL, BOOKS, ROOMS, check_errors, in_turns, one_room, turned_dict, with_lists


def woods_with(house, above):
    """All woods with so many hours above one for each room, in all."""
    for row in itertools.product(range(above + 1), repeat=len(house)):
        if sum(row) == above:
            yield {room: 1 + more for room, more in zip(house.rooms(), row)}


def worth_by_words(stretches, pairs):
    rooms = [room for pair in pairs for room in stretches[pair][0]]
    if len(set(rooms)) != len(rooms) or not all(stretches[pair][0] for pair in pairs):
        return None
    return sum(stretches[pair][1] - len(stretches[pair][0]) for pair in pairs)


class Fewest(unittest.TestCase):
    """[101]"""

    def test_against_all_woods(self):
        seen = {None: 0, 0: 0, 1: 0, 2: 0}
        for chance, house, woods in small_cases(340, 150, 4, 4):
            book = random_book(chance, house, woods, 0.3)
            if chance.random() < 0.1:
                book = {}
            first = chance.choice(house.rooms())
            stretches = stretches_by_words(house, book, first)
            barred = any(not part and wants > 0 for part, wants in stretches.values())
            told, pairs = fewest_hours(house, book, first), apart_pairs(house, book, first)
            self.assertEqual(told is None, barred)
            self.assertEqual(pairs is None, barred)
            seen[None if barred else min(told[0], 2)] += 1
            if not barred:
                self.check(house, book, first, told, pairs)
                self.most(house, book, first, told[0], stretches)
            else:
                self.assertFalse(some_fits(house, {room: 40 for room in house.rooms()}, book, first))
        self.assertTrue(min(seen.values()) > 5)

    def check(self, house, book, first, told, pairs):
        hours, woods = told
        self.assertIsInstance(told, tuple)
        self.assertEqual(list(woods), house.rooms())
        self.assertEqual(sum(woods.values()) - len(house), hours)
        self.assertTrue(min(woods.values()) >= 1)
        self.assertIsNotNone(early_from(house, woods, book, first))
        for fewer in range(hours):
            self.assertFalse(any(some_fits(house, less, book, first) for less in woods_with(house, fewer)))
        self.assertIsInstance(pairs, list)
        self.assertTrue(all(isinstance(pair, tuple) for pair in pairs))
        self.assertEqual(apart_worth(house, book, first, pairs), hours)
        self.assertEqual(pairs == [], hours == 0)

    def most(self, house, book, first, hours, stretches):
        """No pairs are worth more."""
        for many in range(4):
            for some in itertools.combinations(stretches, many):
                worth = worth_by_words(stretches, some)
                self.assertEqual(apart_worth(house, book, first, list(some)), worth)
                self.assertTrue(worth is None or worth <= hours)

    def test_worth_is_hours_for_greater_houses(self):
        many = 0
        for chance, house, woods in small_cases(341, 150, 9, 3):
            book = random_book(chance, house, woods, 0.05)
            for first in house.rooms():
                told = fewest_hours(house, book, first)
                if told is not None:
                    many += told[0] > 1
                    hours, woods = told
                    self.assertIsNotNone(early_from(house, woods, book, first))
                    self.assertEqual(apart_worth(house, book, first, apart_pairs(house, book, first)), hours)
        self.assertTrue(many > 50)

    def test_worth_of_any_object(self):
        book = {"a": 0, "c": 6, "d": 1}
        for thing in ALL + [[("a", "b")], [("a", "a")], [("a", "c", "d")], [("a",)], [("a", "c"), None], [["a", "z"]],
                            [("a", ["c"])], ("a", "c"), [("a", "c"), ("a", "c")], [("a", "c"), ("a", "d")], [("c", "a")],
                            {("a", "c"): 1}, "ac"]:
            told = apart_worth(H, book, "a", thing)
            self.assertEqual(told, 0 if thing in ([], ()) and isinstance(thing, (list, tuple)) else None)
        self.assertEqual(apart_worth(H, book, "a", [("a", "c")]), 4)
        self.assertEqual(apart_worth(H, book, "a", (["a", "c"],)), 4)
        self.assertEqual(apart_worth(H, book, "a", [("a", "d")]), -1)
        self.assertEqual(apart_worth(H, book, "a", [("d", "c")]), 6 - 1 + 1 - 1)
        self.assertEqual(apart_worth(H, book, "a", [("c", "d")]), 1 - 6 + 1 - 1)
        self.assertEqual(apart_worth(H, {}, "a", []), 0)
        self.assertEqual(apart_worth(H, {"a": 0, "c": 0}, "a", []), 0)

    def test_edges(self):
        for first in H.rooms():
            for book in ({}, {"c": -9}):
                self.assertEqual(fewest_hours(H, book, first), (0, {room: 1 for room in "abcd"}))
                self.assertEqual(apart_pairs(H, book, first), [])
        self.assertEqual(fewest_hours(one_room(), {"a": 3}, "a"), (0, {"a": 1}))
        for book in ({"a": 0, "c": 1}, {"a": 0, "c": 0}):
            self.assertIsNone(fewest_hours(H, book, "a"))
            self.assertIsNone(apart_pairs(H, book, "a"))
        row = house_of("ab bc cd de")
        self.assertEqual(fewest_hours(row, {"a": 0, "b": 5, "c": 6, "d": 12, "e": 20}, "a")[0], 4 + 5 + 7)
        self.assertEqual(fewest_hours(row, {"a": 0, "e": 20}, "c")[0], 20)

    def test_sixty_rooms(self):
        for number, house in enumerate(great_houses()):
            chance = random.Random(number)
            woods = random_woods(chance, house, 999999999)
            first = chance.choice(house.rooms())
            fire = late_from(house, woods, {first: -999999999}, first)
            for some in (house.rooms(), chance.sample(house.rooms(), 25)):
                book = {room: fire[room] for room in some}
                hours, told = fewest_hours(house, book, first)
                self.assertIsNotNone(early_from(house, told, book, first))
                self.assertEqual(sum(told.values()), hours + 60)
                self.assertLessEqual(hours, sum(woods.values()))
                self.assertEqual(apart_worth(house, book, first, apart_pairs(house, book, first)), hours)

    def test_errors(self):
        rows = [(1, BadBook, BOOKS), (2, NoRoom, ROOMS)]
        for call in (fewest_hours, apart_pairs):
            check_errors(self, call, (H, {"a": 0, "c": 6}, "a"), rows)
        check_errors(self, apart_worth, (H, {"a": 0, "c": 6}, "a", []), rows)
        for thing in (None, [("a", "c")]):
            check_errors(self, apart_worth, (H, {"a": 0, "c": 6}, "a", thing), rows)

    def test_example(self):
        """[103]"""
        book = {"a": 0, "c": 6}
        hours, woods = fewest_hours(H, book, "a")
        self.assertEqual(hours, 4)
        self.assertIsNotNone(early_from(H, woods, book, "a"))
        self.assertEqual(apart_pairs(H, book, "a"), [("a", "c")])

    def test_in_turns(self):
        one, other = {"a": 0, "c": 6}, {"c": 2, "d": 5, "a": 1}
        in_turns(self, [lambda: fewest_hours(H, one, "a"), lambda: fewest_hours(H, other, "c"),
                        lambda: apart_pairs(H, one, "a"), lambda: apart_pairs(H, turned_dict(other), "c"),
                        lambda: apart_worth(H, one, "a", with_lists([("a", "c")]))])
        book = dict(one)
        self.assertEqual(fewest_hours(H, book, "a")[0], 4)
        book["c"] = 2
        self.assertEqual(fewest_hours(H, book, "a")[0], 0)
        hours, woods = fewest_hours(H, book, "a")
        woods["a"] = 50
        self.assertEqual(fewest_hours(H, book, "a")[1]["a"], 1)
        self.assertEqual(W["a"], 2)


if __name__ == "__main__":
    unittest.main()
