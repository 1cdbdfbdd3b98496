import random
import unittest

from hearths.booklengths import fitting_fire, lengths_by, lengths_of_book
from hearths.books import fits
from hearths.errors import BadBook, BadLength, BadWoods, NoRoom
from hearths.fires import is_fire
from hearths.lengths import all_lengths, lengths_from
from tests.brute import all_fires, all_fitting, great_houses, random_book, random_woods, small_cases
from tests.test_fires import H, W
from tests.test_fittings import fire_of
from tests.test_lengths import length
from tests.wrong import BOOKS, FROM_ONE, ROOMS, WOODS, check_errors, in_turns, one_room, turned_dict


def ends(lengths):
    return (min(lengths), max(lengths)) if lengths else None


class BookLengths(unittest.TestCase):
    """[47]"""

    def test_small_houses(self):
        for chance, house, woods in small_cases(140, 200, 5):
            self.check(house, woods, random_book(chance, house, woods, 0.15))

    def test_one_room_noted(self):
        for chance, house, woods in small_cases(141, 40, 6):
            self.check(house, woods, {chance.choice(house.rooms()): -7})

    def test_none_fits(self):
        for book in ({"a": 0, "b": 99}, {"a": 1, "b": 1}):
            self.check(H, W, book)
            self.assertIsNone(lengths_of_book(H, W, book))

    def check(self, house, woods, book):
        fires = all_fitting(house, woods, book)
        lengths = sorted({length(woods, fire) for _, fire in fires})
        for first in house.rooms():
            had = {length(woods, fire) for begun, fire in fires if begun == first}
            self.assertEqual(lengths_by(house, woods, book, first), ends(had))
            self.assertTrue(not had or had == set(range(min(had), max(had) + 1)))
        self.assertEqual(lengths_of_book(house, woods, book), ends(lengths))
        self.check_between(house, woods, book, lengths)

    def check_between(self, house, woods, book, lengths):
        self.assertTrue(not lengths or lengths == list(range(lengths[0], lengths[-1] + 1)))
        for asked in range(1, max(lengths, default=0) + 3):
            fire = fitting_fire(house, woods, book, asked)
            self.assertEqual(fire is not None, asked in lengths)
            if fire is not None:
                self.assertTrue(is_fire(house, woods, fire) and fits(house, woods, book, fire))
                self.assertEqual(length(woods, fire), asked)
                self.assertEqual(list(fire), house.rooms())

    def test_empty_book(self):
        for _, house, woods in small_cases(142, 30, 5):
            for first in house.rooms():
                self.assertEqual(lengths_by(house, woods, {}, first), lengths_from(house, woods, first))
            self.assertEqual(lengths_of_book(house, woods, {}), all_lengths(house, woods))
            self.check_between(house, woods, {}, sorted({length(woods, fire) for _, fire in all_fires(house, woods)}))

    def test_sixty_rooms(self):
        for number, house in enumerate(great_houses()):
            chance = random.Random(number)
            woods = random_woods(chance, house, 999999999)
            fire = fire_of(chance, house, woods)
            book = {room: fire[room] for room in chance.sample(house.rooms(), 6)}
            least, most = lengths_of_book(house, woods, book)
            self.assertTrue(least <= length(woods, fire) <= most)
            for asked in (least, most, (least + most) // 2, length(woods, fire)):
                told = fitting_fire(house, woods, book, asked)
                self.assertTrue(is_fire(house, woods, told) and fits(house, woods, book, told))
                self.assertEqual(length(woods, told), asked)
            self.assertIsNone(fitting_fire(house, woods, book, most + 1))
            self.assertIsNone(fitting_fire(house, woods, book, least - 1))

    def test_one_room(self):
        house = one_room()
        for book in ({}, {"a": 5}):
            self.assertEqual(lengths_by(house, {"a": 3}, book, "a"), (3, 3))
            self.assertEqual(lengths_of_book(house, {"a": 3}, book), (3, 3))
            self.assertIsNone(fitting_fire(house, {"a": 3}, book, 2))
        self.assertEqual(fitting_fire(house, {"a": 3}, {"a": 5}, 3), {"a": 5})

    def test_errors(self):
        rows = [(1, BadWoods, WOODS), (2, BadBook, BOOKS)]
        check_errors(self, lengths_by, (H, W, {"a": 0}, "b"), rows + [(3, NoRoom, ROOMS)])
        check_errors(self, lengths_of_book, (H, W, {"a": 0}), rows)
        check_errors(self, fitting_fire, (H, W, {"a": 0}, 4), rows + [(3, BadLength, FROM_ONE)])

    def test_example(self):
        """[52]"""
        self.assertEqual(lengths_of_book(H, W, {"a": 0, "c": 3}), (4, 6))
        self.assertEqual(lengths_of_book(H, W, {"a": 0, "c": 5}), (6, 6))

    def test_in_turns(self):
        book, other = {"a": 0, "c": 3}, {"c": 5, "d": 5}
        in_turns(self, [lambda: lengths_of_book(H, W, book), lambda: fitting_fire(H, W, book, 5),
                        lambda: fitting_fire(H, turned_dict(W), turned_dict(book), 5),
                        lambda: lengths_of_book(H, W, other), lambda: fitting_fire(H, dict(W, a=4), other, 5)])
        told = {"a": 0, "c": 3}
        self.assertEqual(lengths_of_book(H, W, told), (4, 6))
        told["c"] = 5
        self.assertEqual(lengths_of_book(H, W, told), (6, 6))


if __name__ == "__main__":
    unittest.main()
