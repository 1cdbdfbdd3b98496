import itertools
import random
import unittest

from hearths.errors import BadBook, BadWoods, NoRoom
from hearths.fires import is_fire
from hearths.firstrooms import (begin_hours, door_ways, early_from, first_paper, first_rooms, hours_from, late_from)
from hearths.houses import House
from hearths.ways import meeting
from hearths.woods import spread
from tests.brute import (all_fires, all_fitting, fires_from, great_houses, house_of, outward, path, random_book,
                         sample_of_objects, small_cases)
from tests.test_fires import BAD_WOODS, H, W
from tests.test_ways import raised

BOOK = {"c": 7, "d": 9}


def by_first(house, woods, book):
    """The dict from all rooms to the fires with them as first rooms that fit a book that is not empty."""
    fires = {first: [] for first in house.rooms()}
    for first, fire in all_fitting(house, woods, book):
        fires[first].append(fire)
    return fires


class FromAToldRoom(unittest.TestCase):
    """[25], [26]"""

    def test_small_houses(self):
        for chance, house, woods in small_cases(60, 100, 5):
            for _ in range(3):
                book = random_book(chance, house, woods)
                for first, fires in by_first(house, woods, book).items():
                    self.check(house, woods, book, first, fires)

    def check(self, house, woods, book, first, fires):
        early, late = early_from(house, woods, book, first), late_from(house, woods, book, first)
        paper = first_paper(house, woods, book, first)
        self.assertTrue((early is None) != (paper is None))
        for room in house.rooms():
            hours = [fire[room] for fire in fires]
            told = hours_from(house, woods, book, first, room)
            self.assertEqual(told, (min(hours), max(hours)) if hours else None)
            self.assertTrue(not hours or len(set(hours)) == told[1] - told[0] + 1)
        if fires:
            self.assertEqual(early, {room: min(fire[room] for fire in fires) for room in house.rooms()})
            self.assertEqual(late, {room: max(fire[room] for fire in fires) for room in house.rooms()})
            self.assertIn(early, fires)
            self.assertIn(late, fires)
            self.assertEqual((list(early), list(late)), (house.rooms(), house.rooms()))
        else:
            self.assertIsNone(late)
            self.assertEqual(paper, self.first_pair(house, woods, book, first))

    def first_pair(self, house, woods, book, first):
        fires = list(fires_from(house, woods, first))
        for one, other in itertools.combinations(sorted(book), 2):
            if not any(fire[other] - fire[one] == book[other] - book[one] for fire in fires):
                return (one, other)
        return None

    def test_pairs_by_spreads(self):
        for _, house, woods in small_cases(61, 20, 5):
            for first, one, other in itertools.product(house.rooms(), repeat=3):
                part = meeting(house, first, one, other)
                a, b = spread(house, woods, part, one), spread(house, woods, part, other)
                for hours in range(b[0] - a[1] - 1, b[1] - a[0] + 2):
                    book = {one: 0, other: hours} if one != other else {one: 0}
                    there = early_from(house, woods, book, first) is not None
                    self.assertEqual(there, b[0] - a[1] <= hours <= b[1] - a[0] or one == other)

    def test_empty_book(self):
        for _, house, woods in small_cases(62, 30, 5):
            for first in house.rooms():
                fires = list(fires_from(house, woods, first))
                self.assertIsNone(first_paper(house, woods, {}, first))
                self.assertEqual(early_from(house, woods, {}, first),
                                 {room: min(fire[room] for fire in fires) for room in house.rooms()})
                self.assertEqual(late_from(house, woods, {}, first),
                                 {room: max(fire[room] for fire in fires) for room in house.rooms()})
                for room in house.rooms():
                    self.assertEqual(hours_from(house, woods, {}, first, room), (None, None))

    def test_ends_of_the_first_room(self):
        for chance, house, woods in small_cases(63, 60, 5):
            book = random_book(chance, house, woods, 0)
            for first in first_rooms(house, woods, book):
                spreads = {room: spread(house, woods, first, room) for room in book}
                least = max(book[room] - spreads[room][1] for room in book)
                most = min(book[room] - spreads[room][0] for room in book)
                self.assertEqual(hours_from(house, woods, book, first, first), (least, most))


class FirstRooms(unittest.TestCase):
    """[27], [28]"""

    def test_small_houses(self):
        for chance, house, woods in small_cases(64, 150, 6):
            book = random_book(chance, house, woods)
            fires = {first: told for first, told in by_first(house, woods, book).items() if told}
            self.assertEqual(first_rooms(house, woods, book), list(fires))
            begun = {first: [fire[first] for fire in told] for first, told in fires.items()}
            told = begin_hours(house, woods, book)
            self.assertEqual(told, {first: (min(hours), max(hours)) for first, hours in begun.items()})
            self.assertEqual(list(told), list(fires))
            for one, other in itertools.combinations(fires, 2):
                self.assertLessEqual(set(path(house, one, other)), set(fires))
            self.check_ways(house, woods, book, fires)

    def check_ways(self, house, woods, book, fires):
        gone = {door: set() for door in house.doors()}
        for first in fires:
            for room, came in outward(house, first)[1:]:
                gone[tuple(sorted((room, came)))].add((came, room))
        if not fires:
            self.assertIsNone(door_ways(house, woods, book))
            return
        told = door_ways(house, woods, book)
        self.assertEqual(list(told), house.doors())
        self.assertEqual(told, {door: ways.pop() if len(ways) == 1 else None for door, ways in gone.items()})

    def test_empty_book(self):
        self.assertEqual(first_rooms(H, W, {}), ["a", "b", "c", "d"])
        self.assertEqual(begin_hours(H, W, {}), {room: (None, None) for room in "abcd"})
        self.assertEqual(door_ways(H, W, {}), {door: None for door in H.doors()})
        one = House(["a"], [])
        self.assertEqual(first_rooms(one, {"a": 1}, {}), ["a"])
        self.assertEqual(door_ways(one, {"a": 1}, {}), {})
        self.assertEqual(begin_hours(one, {"a": 1}, {"a": 4}), {"a": (4, 4)})

    def test_example(self):
        self.assertEqual(first_rooms(H, W, BOOK), ["a", "b", "c"])
        self.assertEqual(begin_hours(H, W, BOOK), {"a": (4, 5), "b": (6, 6), "c": (7, 7)})
        self.assertEqual(first_paper(H, W, BOOK, "d"), ("c", "d"))
        self.assertEqual(early_from(H, W, BOOK, "a"), {"a": 4, "b": 6, "c": 7, "d": 9})
        self.assertEqual(late_from(H, W, BOOK, "a"), {"a": 5, "b": 6, "c": 7, "d": 9})
        self.assertEqual(door_ways(H, W, BOOK), {("a", "b"): None, ("b", "c"): None, ("b", "d"): ("b", "d")})


class Errors(unittest.TestCase):
    def test_order(self):
        calls = ((first_paper, 1), (early_from, 1), (late_from, 1), (hours_from, 2), (first_rooms, 0),
                 (begin_hours, 0), (door_ways, 0))
        bad_books = [thing for thing in sample_of_objects(H) if thing != {}] + [{"a": True}, {"a": 1, "e": 2}]
        for call, rooms in calls:
            for thing in BAD_WOODS + sample_of_objects(H):
                self.assertIs(raised(self, BadWoods, call, H, thing, None, *[None] * rooms).thing, thing)
            for thing in bad_books:
                self.assertIs(raised(self, BadBook, call, H, W, thing, *[None] * rooms).thing, thing)
            for thing in sample_of_objects(H) if rooms else []:
                self.assertIs(raised(self, NoRoom, call, H, W, BOOK, thing, *["zy"] * (rooms - 1)).thing, thing)
        for thing in sample_of_objects(H):
            self.assertIs(raised(self, NoRoom, hours_from, H, W, {}, "a", thing).thing, thing)
            self.assertIs(raised(self, NoRoom, hours_from, H, W, {"a": 0, "b": 99}, "a", thing).thing, thing)

    def test_told_new_and_passed_unchanged(self):
        book = {"d": 9, "c": 7}
        for call, things in ((early_from, ("a",)), (late_from, ("a",)), (first_rooms, ()), (begin_hours, ()),
                             (door_ways, ())):
            told = call(H, W, book, *things)
            same = call(H, W, book, *things)
            told.clear()
            self.assertEqual(call(H, W, book, *things), same)
        self.assertEqual(list(book.items()), [("d", 9), ("c", 7)])

    def test_one_house_asked_in_turns(self):
        book, woods = {"c": 7, "d": 9}, dict(W)
        self.assertEqual(first_rooms(H, woods, book), ["a", "b", "c"])
        book["d"] = 7
        self.assertEqual(first_rooms(H, woods, book), ["a", "b"])
        woods["b"] = 1
        self.assertEqual(begin_hours(H, woods, book), {"a": (4, 5), "b": (6, 6)})
        book["d"] = 9
        self.assertEqual(first_rooms(H, woods, book), ["c"])
        woods["b"] = 3
        self.assertEqual(first_rooms(H, woods, book), ["a", "b", "c"])


class Great(unittest.TestCase):
    """[32]"""

    def test_sixty_rooms(self):
        for number, house in enumerate(great_houses()):
            chance = random.Random(number)
            for most in (2, 999999999):
                woods = {room: chance.randint(1, most) for room in house.rooms()}
                first = chance.choice(house.rooms())
                fire = late_from(house, woods, {first: -999999999}, first)
                self.great_one(house, woods, fire, first)

    def great_one(self, house, woods, fire, first):
        book = {room: hour for at, (room, hour) in enumerate(fire.items()) if at % 3 == 0}
        firsts = first_rooms(house, woods, book)
        self.assertIn(first, firsts)
        self.assertEqual(list(begin_hours(house, woods, book)), firsts)
        for room in house.rooms():
            early, paper = early_from(house, woods, book, room), first_paper(house, woods, book, room)
            self.assertTrue((early is None) == (room not in firsts))
            self.assertTrue((early is None) != (paper is None))
            if early is not None:
                self.assertTrue(is_fire(house, woods, early))
        self.assertEqual(set(door_ways(house, woods, book)), set(house.doors()))

    def test_hours_of_ten_figures_apart(self):
        house = house_of("ab bc")
        woods = {"a": 999999999, "b": 999999999, "c": 1}
        self.assertEqual(hours_from(house, woods, {"c": 999999999}, "a", "a"), (-999999999, 999999997))
        self.assertEqual(first_paper(house, woods, {"a": -999999999, "c": 999999999}, "b"), ("a", "c"))


if __name__ == "__main__":
    unittest.main()
