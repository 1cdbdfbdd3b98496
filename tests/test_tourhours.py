import random
import unittest
from collections import Counter
from math import factorial

from hearths.errors import BadBack, BadBook, BadWoods, NoRoom, NothingTold
from hearths.houses import House
from hearths.tourhours import count_by_book, lit_counts, tour_by_book
from hearths.tournumbers import count_tours, tour_numbered
from hearths.tours import late_in_tour, tour_hours
from tests.brute import great_houses, random_woods, small_cases, star_house, tours_in_time
from tests.test_fires import H, W
from tests.test_ways import raised
from tests.wrong import BOOKS, NUMBERS, ROOMS, WOODS, check_errors, in_turns, one_room, turned_dict


class Lit(unittest.TestCase):
    """[111]"""

    def test_small_houses(self):
        for chance, house, woods in small_cases(380, 100, 6, 8):
            back = chance.choice([0, 1, 2, 999999999])
            for first in house.rooms():
                tours = tours_in_time(house, woods, back, first)
                for room in house.rooms():
                    told = lit_counts(house, woods, back, first, room)
                    hours = Counter(hours[room] for _, hours in tours)
                    self.assertEqual(list(told.items()), sorted(hours.items()))

    def test_thirty_rooms(self):
        for number, house in enumerate(great_houses(30)):
            chance = random.Random(number)
            for back, woods in ((1, {room: 60 for room in house.rooms()}), (0, {room: 999999999 for room in house.rooms()}),
                                (0, random_woods(chance, house, 60)), (999999999, random_woods(chance, house, 999999999))):
                first = chance.choice(house.rooms())
                many = count_tours(house, woods, back, first)
                for room in chance.sample(house.rooms(), 5):
                    told = lit_counts(house, woods, back, first, room)
                    self.assertEqual(sum(told.values()), many)
                    self.assertEqual(list(told), sorted(told))
                    if many:
                        tour = tour_numbered(house, woods, back, first, chance.randrange(many))
                        self.assertIn(tour_hours(house, back, tour)[room], told)

    def test_star(self):
        house = star_house(30)
        first, other = house.rooms()[15], house.rooms()[0]
        woods = {room: 999999999 for room in house.rooms()}
        self.assertEqual(lit_counts(house, woods, 4, first, other), {1 + 5 * at: factorial(28) for at in range(29)})
        self.assertEqual(lit_counts(house, woods, 4, first, first), {0: factorial(29)})
        self.assertEqual(lit_counts(house, woods, 4, other, house.rooms()[1]),
                         {2 + 5 * at: factorial(27) for at in range(28)})
        self.assertEqual(lit_counts(house, {room: 28 for room in house.rooms()}, 0, first, first), {})

    def test_errors(self):
        check_errors(self, lit_counts, (H, W, 1, "a", "b"), [(1, BadWoods, WOODS), (2, BadBack, NUMBERS),
                                                             (3, NoRoom, ROOMS), (4, NoRoom, ROOMS)])

    def test_example(self):
        """[113]"""
        self.assertEqual(lit_counts(H, W, 1, "a", "c"), {2: 1, 4: 1})
        self.assertEqual(lit_counts(H, W, 1, "b", "c"), {})
        self.assertEqual(lit_counts(one_room(), {"a": 1}, 1, "a", "a"), {0: 1})


def book_of_tour(chance, house, woods, back):
    """Some hours of a tour in time, some of them changed a little."""
    tours = [hours for first in house.rooms() for _, hours in tours_in_time(house, woods, back, first)]
    begin = chance.randint(-5, 5)
    hours = chance.choice(tours) if tours else {room: 0 for room in house.rooms()}
    some = chance.sample(house.rooms(), chance.randint(1, len(house)))
    return {room: begin + hours[room] + (chance.choice([-1, 1]) if chance.random() < 0.1 else 0) for room in some}


def with_doors(chance, many, most):
    """A house of so many rooms with at most so many beside each."""
    names = [f"r{number}" for number in range(many)]
    free, doors = {names[0]: most}, []
    for name in names[1:]:
        near = chance.choice([room for room in free if free[room]])
        doors.append((near, name))
        free[near] -= 1
        free[name] = most - 1
    return House(names, doors)


class ByBook(unittest.TestCase):
    """[112]"""

    def test_small_houses(self):
        seen = {True: 0, False: 0}
        for chance, house, woods in small_cases(381, 150, 6, 6):
            back = chance.choice([0, 1, 2, 999999999])
            book = book_of_tour(chance, house, woods, back)
            pairs = []
            for first in house.rooms():
                for tour, hours in tours_in_time(house, woods, back, first):
                    begins = {book[room] - hours[room] for room in book}
                    if len(begins) == 1:
                        pairs.append((begins.pop(), tour))
            self.assertEqual(count_by_book(house, woods, back, book), len(pairs))
            told = tour_by_book(house, woods, back, book)
            seen[told is None] += 1
            if pairs:
                self.assertIsInstance(told, tuple)
                self.assertIn(told, pairs)
                self.assertEqual(tour_by_book(house, turned_dict(woods), back, turned_dict(book)), told)
            else:
                self.assertIsNone(told)
        self.assertTrue(min(seen.values()) > 30)

    def test_six_beside_each(self):
        for seed in range(4):
            chance = random.Random(seed)
            house = with_doors(chance, 60, 6)
            back = chance.choice([0, 1, 999999999])
            woods = {room: 60 * (1 + back) for room in house.rooms()}
            first = chance.choice(house.rooms())
            tour = tour_numbered(house, woods, back, first, count_tours(house, woods, back, first) // 3)
            hours = tour_hours(house, back, tour)
            for many in (1, 3, 60):
                book = {room: hours[room] - 77 for room in chance.sample(house.rooms(), many)}
                self.assertGreater(count_by_book(house, woods, back, book), 0)
                begin, told = tour_by_book(house, woods, back, book)
                self.assertIsNone(late_in_tour(house, woods, back, told))
                lit = tour_hours(house, back, told)
                self.assertTrue(all(begin + lit[room] == hour for room, hour in book.items()))
            self.assertEqual(count_by_book(house, woods, back, hours), 1)

    def test_one_noted(self):
        """one hour fits each tour once"""
        for chance, house, woods in small_cases(382, 40, 7, 9):
            many = sum(count_tours(house, woods, 1, first) for first in house.rooms())
            room = chance.choice(house.rooms())
            self.assertEqual(count_by_book(house, woods, 1, {room: 999999999}), many)
        self.assertEqual(count_by_book(one_room(), {"a": 1}, 1, {"a": -4}), 1)
        self.assertEqual(tour_by_book(one_room(), {"a": 1}, 1, {"a": -4}), (-4, ["a"]))

    def test_errors(self):
        rows = [(1, BadWoods, WOODS), (2, BadBack, NUMBERS), (3, BadBook, BOOKS)]
        for call in (count_by_book, tour_by_book):
            check_errors(self, call, (H, W, 1, {"b": 5}), rows)
            raised(self, NothingTold, call, H, W, 1, {})
            raised(self, BadBack, call, H, W, -1, {})

    def test_example(self):
        """[113]"""
        book = {"b": 5, "d": 6}
        self.assertEqual(count_by_book(H, W, 1, book), 2)
        self.assertIn(tour_by_book(H, W, 1, book), [(4, ["a", "b", "d", "c"]), (4, ["c", "b", "d", "a"])])

    def test_in_turns(self):
        one, other = {"b": 5, "d": 6}, {"a": 5, "d": 9}
        in_turns(self, [lambda: tour_by_book(H, W, 1, one), lambda: tour_by_book(H, W, 1, other),
                        lambda: count_by_book(H, W, 0, other), lambda: lit_counts(H, W, 1, "a", "d"),
                        lambda: tour_by_book(H, dict(W, b=9), 2, one), lambda: lit_counts(H, dict(W, b=9), 0, "b", "d")])
        woods, book = dict(W), dict(one)
        self.assertEqual(count_by_book(H, woods, 1, book), 2)
        woods["b"] = 9
        self.assertEqual(count_by_book(H, woods, 1, book), 4)
        book["a"] = 4
        self.assertEqual(count_by_book(H, woods, 1, book), 1)
        self.assertEqual(tour_by_book(H, woods, 1, book), (4, ["a", "b", "d", "c"]))


if __name__ == "__main__":
    unittest.main()
