import itertools
import random
import unittest

from hearths.backwoods import least_wood, no_woods, wanting_pair, woods_of
from hearths.errors import BadBook, BadBooks, BadWoods, NoRoom
from hearths.fires import is_fire
from hearths.firstrooms import early_from, late_from
from tests.brute import (all_fires, fires_from, great_houses, house_of, moved, path, random_book, random_woods,
                         small_cases, ways_on)
from tests.test_fires import H, W
from tests.test_ways import raised
from tests.wrong import ALL, BOOKS, NO_LISTS, ROOMS, WOODS, check_errors, in_turns, one_room, turned_dict

ONE, TWO = {"a": 0, "b": 2, "c": 3, "d": 3}, {"a": 4, "b": 3, "c": 4, "d": 5}
NONE = {"a": 0, "b": 1, "c": 0, "d": 2}


def random_books(chance, house):
    """One to three whole books, each a fire by some woods, or nearly."""
    books = []
    for _ in range(chance.randint(1, 3)):
        fire = moved(chance.choice(all_fires(house, random_woods(chance, house, 2)))[1], chance.randint(-4, 4))
        if chance.random() < 0.3:
            fire[chance.choice(house.rooms())] += chance.choice([-1, 1])
        elif chance.random() < 0.4:
            fire = dict(zip(house.rooms(), chance.sample(range(-2, 4), len(house))))
        books.append({room: fire[room] for room in chance.sample(house.rooms(), len(house))})
    return books


def why_not(house, book):
    """By the words of [99]."""
    for one, other in house.doors():
        if book[one] == book[other]:
            return (one, other)
    for room in house.rooms():
        earlier = sorted(far for far in ways_on(house, room) if book[far] < book[room])
        if len(earlier) >= 2:
            return (room, earlier[0], earlier[1])
    return None


class WholeBooks(unittest.TestCase):
    """[99]"""

    def test_against_all_woods(self):
        seen = {0: 0, 3: 0, 4: 0}
        for chance, house, _ in small_cases(330, 150, 4):
            books = random_books(chance, house)
            most = max(max(book.values()) - min(book.values()) for book in books) + 1
            fitting = [row for row in itertools.product(range(1, most + 1), repeat=len(house))
                       if all(is_fire(house, dict(zip(house.rooms(), row)), book) for book in books)]
            told, none = woods_of(house, books), no_woods(house, books)
            self.assertTrue((told is None) != (none is None))
            self.assertEqual(told is None, not fitting)
            seen[0 if none is None else len(none)] += 1
            if none is None:
                self.assertEqual(list(told.values()), [min(row[at] for row in fitting) for at in range(len(house))])
                self.assertIn(tuple(told.values()), fitting)
                self.assertEqual(list(told), house.rooms())
            else:
                self.assertIsInstance(none, tuple)
                whys = [why_not(house, book) for book in books]
                at = [why is None for why in whys].index(False)
                self.assertEqual(none, (at,) + whys[at])
        self.assertTrue(min(seen.values()) > 8, seen)

    def test_least_is_the_most_behind(self):
        for chance, house, woods in small_cases(331, 60, 6):
            books = [chance.choice(all_fires(house, woods))[1] for _ in range(3)]
            told = woods_of(house, tuple(books))
            for room in house.rooms():
                behind = [book[far] - book[room] for book in books for far in ways_on(house, room)]
                self.assertEqual(told[room], max([1] + behind))

    def test_one_room(self):
        self.assertEqual(woods_of(one_room(), [{"a": 4}, {"a": -4}]), {"a": 1})
        self.assertIsNone(no_woods(one_room(), [{"a": 4}, {"a": -4}]))

    def test_thirty_books_of_sixty_rooms(self):
        for number, house in enumerate(great_houses()):
            chance = random.Random(number)
            woods = random_woods(chance, house, 999999999)
            firsts = [chance.choice(house.rooms()) for _ in range(30)]
            books = [late_from(house, woods, {first: -999999999}, first) for first in firsts]
            told = woods_of(house, books)
            self.assertTrue(all(is_fire(house, told, book) for book in books))
            self.assertTrue(all(told[room] <= woods[room] for room in told))
            far = ways_on(house, firsts[20])[0]
            books[20][far] = books[20][firsts[20]]
            books[25][far] = books[25][ways_on(house, far)[0]]
            self.assertIsNone(woods_of(house, books))
            self.assertEqual(no_woods(house, books), (20,) + tuple(sorted((far, firsts[20]))))

    def test_errors(self):
        some = NO_LISTS + [([], 0), ((), 0), ([None], 0), ([[]], 0)]
        some += [([ONE, thing, ONE], 1) for thing in ALL + [{"a": 0, "b": 2, "c": 3}, dict(ONE, a=True), dict(ONE, x=1),
                                                            dict(ONE, d=None), dict(ONE, b="2")]]
        for call in (woods_of, no_woods):
            check_errors(self, call, (H, [ONE, TWO]), [(1, BadBooks, some)])
            self.assertEqual(raised(self, BadBooks, call, H, [NONE, {}]).index, 1)

    def test_example(self):
        """[103]"""
        self.assertEqual(woods_of(H, [ONE, TWO]), {"a": 2, "b": 2, "c": 1, "d": 1})
        self.assertEqual(no_woods(H, [ONE, TWO, NONE]), (2, "b", "a", "c"))

    def test_in_turns(self):
        in_turns(self, [lambda: woods_of(H, [ONE, TWO]), lambda: woods_of(H, (TWO,)), lambda: no_woods(H, [NONE, ONE]),
                        lambda: woods_of(H, [turned_dict(ONE), TWO]), lambda: no_woods(H, [dict(ONE, a=2)])])
        book = dict(ONE)
        books = [book]
        self.assertEqual(woods_of(H, books), {"a": 2, "b": 1, "c": 1, "d": 1})
        book["a"] = -3
        self.assertEqual(woods_of(H, books)["a"], 5)
        books.append(NONE)
        self.assertIsNone(woods_of(H, books))


def stretches_by_words(house, book, first):
    """The dict from the pairs of a book, ascending, to the pair of their stretch and what it wants: [100]."""
    told = {}
    for one, other in itertools.permutations(sorted(book), 2):
        common = set(path(house, first, one)) & set(path(house, first, other)) & set(path(house, one, other))
        part, = common
        told[(one, other)] = (path(house, part, other)[:-1],
                              book[other] - book[one] + len(path(house, part, one)) - 1)
    return told


def some_fits(house, woods, book, first):
    for fire in fires_from(house, woods, first):
        if len({book[room] - fire[room] for room in book}) <= 1:
            return True
    return False


class OneRoom(unittest.TestCase):
    """[100]"""

    def test_against_all_fires(self):
        seen = {None: 0, 1: 0, 2: 0, 3: 0}
        for chance, house, woods in small_cases(332, 400, 5, 2):
            first, room = chance.choice(house.rooms()), chance.choice(house.rooms())
            book = random_book(chance, house, dict(woods, **{room: chance.randint(2, 5)}), 0.05)
            most = 1 + sum(abs(hour) for hour in book.values()) * 2 + len(house)
            least = next((wood for wood in range(1, min(most, 14)) if
                          some_fits(house, dict(woods, **{room: wood}), book, first)), None)
            told = least_wood(house, woods, book, first, room)
            self.assertEqual(told, least)
            self.assertEqual(least_wood(house, dict(woods, **{room: 77}), book, first, room), least)
            self.assertEqual(wanting_pair(house, woods, book, first, room),
                             self.first_pair(house, woods, book, first, room, least))
            seen[least if least is None else min(least, 3)] += 1
        self.assertTrue(min(seen.values()) > 4, seen)

    def first_pair(self, house, woods, book, first, room, wood):
        for pair, (part, wants) in stretches_by_words(house, book, first).items():
            left = wants - sum(woods[far] for far in part if far != room)
            if wood is None and room not in part and left > 0:
                return pair
            if wood is not None and wood > 1 and room in part and left == wood:
                return pair
        return None

    def test_edges(self):
        for room in H.rooms():
            self.assertEqual(least_wood(H, W, {}, "a", room), 1)
            self.assertIsNone(wanting_pair(H, W, {}, "a", room))
            self.assertEqual(least_wood(H, W, {"c": 8}, "a", room), 1)
        self.assertIsNone(least_wood(H, W, {"a": 0, "c": 0}, "a", "b"))
        self.assertEqual(wanting_pair(H, W, {"a": 0, "c": 0}, "a", "b"), ("c", "a"))
        self.assertEqual(least_wood(one_room(), {"a": 4}, {"a": 1}, "a", "a"), 1)

    def test_sixty_rooms(self):
        for number, house in enumerate(great_houses()):
            chance = random.Random(number)
            woods = random_woods(chance, house, 999999999)
            first = chance.choice(house.rooms())
            fire = late_from(house, woods, {first: -999999999}, first)
            for book in (fire, {room: fire[room] for room in chance.sample(house.rooms(), 20)}):
                room = chance.choice(house.rooms())
                wood = least_wood(house, woods, book, first, room)
                self.assertLessEqual(wood, woods[room])
                self.assertIsNotNone(early_from(house, dict(woods, **{room: wood}), book, first))
                pair = wanting_pair(house, woods, book, first, room)
                self.assertEqual(pair is None, wood == 1)
                if wood > 1:
                    self.assertIsNone(early_from(house, dict(woods, **{room: wood - 1}), book, first))

    def test_errors(self):
        rows = [(1, BadWoods, WOODS), (2, BadBook, BOOKS), (3, NoRoom, ROOMS), (4, NoRoom, ROOMS)]
        for call in (least_wood, wanting_pair):
            check_errors(self, call, (H, W, {"a": 0, "c": 6}, "a", "b"), rows)

    def test_example(self):
        """[103]"""
        self.assertEqual(W["b"], 3)
        self.assertEqual(least_wood(H, W, {"a": 0, "c": 6}, "a", "a"), 3)
        self.assertEqual(wanting_pair(H, W, {"a": 0, "c": 6}, "a", "a"), ("a", "c"))

    def test_in_turns(self):
        one, other = {"a": 0, "c": 6}, {"c": 2, "d": 5}
        in_turns(self, [lambda: least_wood(H, W, one, "a", "a"), lambda: wanting_pair(H, W, other, "a", "b"),
                        lambda: least_wood(H, dict(W, b=1), one, "a", "a"), lambda: least_wood(H, W, other, "c", "b"),
                        lambda: wanting_pair(H, turned_dict(W), turned_dict(one), "a", "a")])
        woods, book = dict(W), dict(one)
        self.assertEqual(least_wood(H, woods, book, "a", "a"), 3)
        woods["b"] = 1
        self.assertEqual(least_wood(H, woods, book, "a", "a"), 5)
        book["c"] = 3
        self.assertEqual(least_wood(H, woods, book, "a", "a"), 2)


class Doors(unittest.TestCase):
    def test_two_rooms(self):
        house = house_of("ab")
        self.assertEqual(no_woods(house, [{"b": 1, "a": 1}]), (0, "a", "b"))
        self.assertEqual(least_wood(house, {"a": 1, "b": 1}, {"a": 0, "b": 9}, "a", "a"), 9)
        self.assertIsNone(least_wood(house, {"a": 1, "b": 1}, {"a": 0, "b": 9}, "b", "a"))
        self.assertEqual(wanting_pair(house, {"a": 1, "b": 1}, {"a": 0, "b": 9}, "b", "a"), ("a", "b"))


if __name__ == "__main__":
    unittest.main()
