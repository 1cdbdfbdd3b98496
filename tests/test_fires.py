import itertools
import unittest

from hearths.books import fits, is_book, part_book
from hearths.errors import BadBook, BadFire, BadSome, BadWoods, NoRoom
from hearths.fires import burnt_out, first_of, is_fire, lit_from
from hearths.houses import House
from hearths.woods import is_woods, spread
from tests.brute import all_fires, house_of, moved, outward, path, row_house, sample_of_objects, small_cases
from tests.test_ways import raised

H = house_of("ab bc bd")
W = {"a": 2, "b": 3, "c": 1, "d": 1}
F = {"a": 4, "b": 6, "c": 7, "d": 9}
BAD_WOODS = [{"a": 2, "b": 3, "c": 1}, dict(W, x=1), dict(W, a=0), dict(W, a=-3), dict(W, d=True), dict(W, d=None),
             dict(W, d="1"), {"a": 2, "b": 3, "c": 1, "D": 1}, {"a": 2, "b": 3, "c": 1, 4: 1}]


class Woods(unittest.TestCase):
    """[9]"""

    def test_is_woods(self):
        self.assertTrue(is_woods(H, W))
        self.assertTrue(is_woods(H, {"d": 1, "c": 1, "b": 999999999, "a": 1}))
        self.assertTrue(is_woods(House(["a"], []), {"a": 1}))
        for thing in BAD_WOODS + sample_of_objects(H) + [list(W.items()), W.keys]:
            self.assertIs(is_woods(H, thing), False)

    def test_bad_woods_come_first(self):
        calls = [(spread, (None, None)), (is_fire, (None,)), (first_of, (None,)), (lit_from, (None,)),
                 (burnt_out, (None,)), (fits, (None, None))]
        for thing in BAD_WOODS + sample_of_objects(H):
            for call, things in calls:
                self.assertIs(raised(self, BadWoods, call, H, thing, *things).thing, thing)

    def test_spread(self):
        self.assertEqual(spread(H, W, "a", "d"), (2, 5))
        self.assertEqual(spread(H, W, "d", "a"), (2, 4))
        self.assertEqual(spread(H, W, "c", "c"), (0, 0))
        for _, house, woods in small_cases(7, 25):
            for one, other in itertools.product(house.rooms(), repeat=2):
                rooms = path(house, one, other)
                told = (len(rooms) - 1, sum(woods[room] for room in rooms[:-1]))
                self.assertEqual(spread(house, woods, one, other), told)

    def test_spread_of_fires(self):
        for _, house, woods in small_cases(8, 25, 4):
            hours = {}
            for first, fire in all_fires(house, woods):
                for room in house.rooms():
                    hours.setdefault((first, room), set()).add(fire[room])
            for (first, room), had in hours.items():
                least, most = spread(house, woods, first, room)
                self.assertEqual(had, set(range(least, most + 1)))

    def test_spread_errors(self):
        for thing in sample_of_objects(H):
            self.assertIs(raised(self, NoRoom, spread, H, W, thing, "zy").thing, thing)
            self.assertIs(raised(self, NoRoom, spread, H, W, "a", thing).thing, thing)

    def test_great(self):
        house = row_house(60)
        woods = {room: 999999999 for room in house.rooms()}
        self.assertEqual(spread(house, woods, "n00", "n59"), (59, 59 * 999999999))


class Fires(unittest.TestCase):
    """[10], [12]"""

    def test_all_hours_of_small_houses(self):
        for _, house, woods in small_cases(9, 12, 4, 2):
            had = {tuple(sorted(fire.items())) for _, fire in all_fires(house, woods)}
            for hours in itertools.product(range(-1, 6), repeat=len(house)):
                thing = dict(zip(house.rooms(), hours))
                begun = min(hours)
                is_one = tuple(sorted(moved(thing, -begun).items())) in had
                self.assertIs(is_fire(house, woods, thing), is_one)

    def test_facts(self):
        for _, house, woods in small_cases(10, 12, 4, 2):
            for hours in itertools.product(range(5), repeat=len(house)):
                fire = dict(zip(house.rooms(), hours))
                self.assertEqual(is_fire(house, woods, fire), self.by_doors(house, woods, fire))

    def by_doors(self, house, woods, fire):
        earlier = {room: 0 for room in house.rooms()}
        for one, other in house.doors():
            ahead, later = sorted((one, other), key=fire.get)
            if not 1 <= fire[later] - fire[ahead] <= woods[ahead]:
                return False
            earlier[later] += 1
        return sorted(earlier.values()) == [0] + [1] * (len(house) - 1)

    def test_any_object(self):
        for thing in sample_of_objects(H) + [dict(F, x=1), dict(F, a=None), dict(F, a=True), dict(F, a="4"), {"a": 4}]:
            self.assertIs(is_fire(H, W, thing), False)
            for call in (first_of, lit_from, burnt_out):
                self.assertIs(raised(self, BadFire, call, H, W, thing).thing, thing)
            self.assertIs(raised(self, BadFire, fits, H, W, {}, thing).thing, thing)

    def test_truths_are_no_hours(self):
        house = House(["a"], [])
        self.assertFalse(is_fire(house, {"a": 1}, {"a": False}))
        self.assertTrue(is_fire(house, {"a": 1}, {"a": 0}))

    def test_what_is_told_of_fires(self):
        for _, house, woods in small_cases(11, 20, 4):
            for first, fire in all_fires(house, woods):
                there = moved(fire, -2)
                self.assertEqual(first_of(house, woods, there), first)
                self.assertEqual(lit_from(house, woods, there), dict(outward(house, first)))
                out = {room: there[room] + woods[room] for room in house.rooms()}
                self.assertEqual(burnt_out(house, woods, there), out)

    def test_told_ascending_and_new(self):
        fire = {"d": 9, "c": 7, "b": 6, "a": 4}
        from_last = {"d": 5, "c": 9, "b": 6, "a": 8}
        self.assertEqual(list(lit_from(H, W, from_last).items()), [("a", "b"), ("b", "d"), ("c", "b"), ("d", None)])
        for call in (lit_from, burnt_out):
            told = call(H, W, fire)
            self.assertEqual(list(told), ["a", "b", "c", "d"])
            told.clear()
            self.assertEqual(len(call(H, W, fire)), 4)
        self.assertEqual(list(fire.items()), [("d", 9), ("c", 7), ("b", 6), ("a", 4)])


class Books(unittest.TestCase):
    """[11]"""

    def test_is_book(self):
        for thing in ({}, {"a": 0}, {"d": -5, "a": 10 ** 9 - 1}, F):
            self.assertIs(is_book(H, thing), True)
        bad = [thing for thing in sample_of_objects(H) if thing != {}]
        for thing in bad + [{"a": True}, {"a": None}, {"a": "1"}, {"a": 1, "x": 2}, {"a": [1]}, {("a",): 1}]:
            self.assertIs(is_book(H, thing), False)
            self.assertIs(raised(self, BadBook, part_book, H, thing, None).thing, thing)
            self.assertIs(raised(self, BadBook, fits, H, W, thing, None).thing, thing)

    def test_fits(self):
        self.assertIs(fits(H, W, {}, F), True)
        self.assertIs(fits(H, W, {"d": 9, "a": 4}, F), True)
        self.assertIs(fits(H, W, F, F), True)
        self.assertIs(fits(H, W, {"d": 9, "a": 5}, F), False)
        self.assertIs(fits(H, W, {"c": 8}, F), False)

    def test_part_book(self):
        book = {"d": 9, "a": 4, "c": 7}
        told = part_book(H, book, ("d", "b", "a"))
        self.assertEqual(list(told.items()), [("a", 4), ("d", 9)])
        self.assertEqual(part_book(H, book, []), {})
        self.assertEqual(part_book(H, {}, ["a"]), {})
        self.assertEqual(book, {"d": 9, "a": 4, "c": 7})
        all_told = part_book(H, book, ["a", "b", "c", "d"])
        all_told.clear()
        self.assertEqual(len(book), 3)

    def test_part_book_errors(self):
        for thing in sample_of_objects(H):
            self.assertEqual(raised(self, BadSome, part_book, H, {}, ["a", thing]).index, 1)
        self.assertEqual(raised(self, BadSome, part_book, H, {}, ["a", "b", "b"]).index, 2)
        self.assertEqual(raised(self, BadSome, part_book, H, {}, {"a": 1}).index, 0)


class Example(unittest.TestCase):
    """[14]"""

    def test_example(self):
        house = House(["a", "b", "c", "d"], [("a", "b"), ("b", "c"), ("b", "d")])
        woods = {"a": 2, "b": 3, "c": 1, "d": 1}
        fire = {"a": 4, "b": 6, "c": 7, "d": 9}
        self.assertEqual(spread(house, woods, "a", "d"), (2, 5))
        self.assertTrue(is_fire(house, woods, fire))
        self.assertEqual(first_of(house, woods, fire), "a")
        self.assertEqual(lit_from(house, woods, fire), {"a": None, "b": "a", "c": "b", "d": "b"})
        self.assertEqual(burnt_out(house, woods, fire), {"a": 6, "b": 9, "c": 8, "d": 10})
        self.assertFalse(is_fire(house, woods, dict(fire, b=7)))
        self.assertFalse(is_fire(house, woods, dict(fire, d=6)))


if __name__ == "__main__":
    unittest.main()
