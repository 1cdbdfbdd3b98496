import itertools
import random
import unittest

from hearths.builtfires import fire_for, is_paper, paper_for
from hearths.errors import BadBook, BadWoods
from hearths.fires import is_fire
from hearths.houses import House
from tests.brute import (all_fires, all_fitting, great_houses, house_of, moved, random_book, row_house,
                         sample_of_objects, small_cases, star_house)
from tests.test_fires import BAD_WOODS, F, H, W
from tests.test_twohours import H6, W6
from tests.test_ways import raised

BOOK6 = {"a": 0, "b": 3, "c": 2, "d": 0}


class Rule(unittest.TestCase):
    """[17], [18], [22]"""

    def check_paper(self, house, woods, book, paper):
        self.assertIsInstance(paper, list)
        self.assertTrue(1 <= len(paper) <= 4)
        self.assertEqual(paper, sorted(set(paper)))
        self.assertLessEqual(set(paper), set(book))
        self.assertEqual(all_fitting(house, woods, {room: book[room] for room in paper}), [])

    def check(self, house, woods, book):
        fire, paper = fire_for(house, woods, book), paper_for(house, woods, book)
        self.assertTrue((fire is None) != (paper is None))
        if not book:
            self.assertTrue(is_fire(house, woods, fire))
        elif fire is not None:
            self.assertIn(fire, [fitting for _, fitting in all_fitting(house, woods, book)])
            self.assertEqual(list(fire), house.rooms())
        else:
            self.assertEqual(all_fitting(house, woods, book), [])
            self.check_paper(house, woods, book, paper)
            for some in (paper, paper[::-1], tuple(paper)):
                self.assertIs(is_paper(house, woods, book, some), True)

    def test_books_of_small_houses(self):
        for chance, house, woods in small_cases(30, 120, 6):
            for _ in range(8):
                self.check(house, woods, random_book(chance, house, woods))
            self.check(house, woods, {})

    def test_all_books_of_a_house(self):
        house, woods = house_of("ab bc bd"), {"a": 1, "b": 2, "c": 2, "d": 1}
        for hours in itertools.product([None, 0, 1, 2, 3], repeat=4):
            self.check(house, woods, {room: hour for room, hour in zip("abcd", hours) if hour is not None})

    def test_is_paper_of_all_lists(self):
        for chance, house, woods in small_cases(31, 25, 5):
            book = random_book(chance, house, woods)
            for many in range(1, 6):
                for some in itertools.combinations(sorted(book), many):
                    barred = not all_fitting(house, woods, {room: book[room] for room in some})
                    mixed = list(some)
                    chance.shuffle(mixed)
                    self.assertIs(is_paper(house, woods, book, mixed), barred and many <= 4)

    def test_is_paper_of_any_object(self):
        for thing in sample_of_objects(H6) + ["abcd", dict(BOOK6), [["a"], "b"], ["a", "b", "c", "d", "a"],
                                              ["a", "a", "b", "c"], ["a", "b", "c", "x"], [0, 3, 2, 0]]:
            self.assertIs(is_paper(H6, W6, BOOK6, thing), False)
        self.assertIs(is_paper(H6, W6, BOOK6, ("d", "b", "c", "a")), True)

    def test_a_list_of_five_rooms_is_no_paper(self):
        house = row_house(6)
        woods = {room: 1 for room in house.rooms()}
        book = {room: 0 for room in house.rooms()}
        self.assertIs(is_paper(house, woods, book, house.rooms()[:4]), True)
        self.assertIs(is_paper(house, woods, book, house.rooms()[:5]), False)

    def test_four_are_wanted(self):
        for three in itertools.combinations("abcd", 3):
            self.assertIs(is_paper(H6, W6, BOOK6, list(three)), False)
            self.assertIsNotNone(fire_for(H6, W6, {room: BOOK6[room] for room in three}))

    def test_example(self):
        self.assertIsNone(fire_for(H6, W6, BOOK6))
        self.assertEqual(paper_for(H6, W6, BOOK6), ["a", "b", "c", "d"])

    def test_free_but_the_same(self):
        for chance, house, woods in small_cases(32, 30, 6):
            book = random_book(chance, house, woods)
            turned = House(house.rooms()[::-1], [list(door)[::-1] for door in house.doors()[::-1]])
            for call in (fire_for, paper_for):
                told = call(house, woods, book)
                for again in (book, dict(reversed(list(book.items())))):
                    self.assertEqual(call(turned, dict(reversed(list(woods.items()))), again), told)
                if told is not None:
                    told.clear()
                    self.assertNotEqual(call(house, woods, book), told)

    def test_facts(self):
        for chance, house, woods in small_cases(33, 60, 5):
            book = {room: chance.randint(0, 3) for room in house.rooms()}
            if not is_fire(house, woods, book):
                papers = [some for many in (1, 2, 3) for some in itertools.combinations(house.rooms(), many)
                          if is_paper(house, woods, book, list(some))]
                self.assertTrue(papers)
            for room in house.rooms():
                self.assertEqual(fire_for(house, woods, {room: -7})[room], -7)
            part = random_book(chance, house, woods)
            if fire_for(house, woods, part) is not None:
                more = {room: wood + chance.randint(0, 2) for room, wood in woods.items()}
                less = {room: hour for room, hour in part.items() if chance.random() < 0.5}
                self.assertIsNotNone(fire_for(house, more, part))
                self.assertIsNotNone(fire_for(house, woods, less))
                self.assertIsNotNone(fire_for(house, woods, moved(part, 100)))

    def test_errors(self):
        for thing in BAD_WOODS + sample_of_objects(H):
            for call, things in ((fire_for, (None,)), (paper_for, (None,)), (is_paper, (None, None))):
                self.assertIs(raised(self, BadWoods, call, H, thing, *things).thing, thing)
        for thing in [thing for thing in sample_of_objects(H) if thing != {}] + [{"a": True}, {"a": 1, "e": 2}]:
            for call, things in ((fire_for, ()), (paper_for, ()), (is_paper, (None,))):
                self.assertIs(raised(self, BadBook, call, H, W, thing, *things).thing, thing)

    def test_passed_unchanged(self):
        book = {"d": 0, "a": 0}
        paper_for(H, W, book)
        fire_for(H, W, F)
        self.assertEqual(list(book.items()), [("d", 0), ("a", 0)])


class Great(unittest.TestCase):
    """[23]"""

    def test_sixty_rooms(self):
        for number, house in enumerate(great_houses()):
            chance = random.Random(number)
            for most in (1, 3, 999999999):
                woods = {room: chance.randint(1, most) for room in house.rooms()}
                self.great_one(chance, house, woods)

    def great_one(self, chance, house, woods):
        fire = fire_for(house, woods, {chance.choice(house.rooms()): -999999999})
        self.assertTrue(is_fire(house, woods, fire))
        self.assertEqual(fire_for(house, woods, fire), fire)
        self.assertIsNone(paper_for(house, woods, fire))
        for _ in range(4):
            book = {room: hour + chance.choice([0, 0, 1, -2]) for room, hour in fire.items()}
            told, paper = fire_for(house, woods, book), paper_for(house, woods, book)
            self.assertTrue((told is None) != (paper is None))
            if paper is None:
                self.assertEqual(told, book)
            else:
                self.assertTrue(is_paper(house, woods, book, paper))
                self.assertIsNone(fire_for(house, woods, {room: book[room] for room in paper}))

    def test_long_walk_to_a_paper(self):
        house = row_house(60)
        woods = {room: 2 for room in house.rooms()}
        book = {room: -at for at, room in enumerate(house.rooms())}
        book["n59"] = 0
        self.assertEqual(paper_for(house, woods, dict(book, n59=-58)), ["n58", "n59"])
        self.assertTrue(is_paper(house, woods, book, paper_for(house, woods, book)))

    def test_star(self):
        house = star_house(60)
        woods = {room: 1 for room in house.rooms()}
        book = {room: 0 for room in house.rooms()[:30]}
        self.assertEqual(fire_for(house, woods, book)["n30"], -1)
        book["n59"] = -2
        self.assertEqual(fire_for(house, woods, book)["n59"], -2)
        book["n58"] = -2
        self.assertTrue(is_paper(house, woods, book, paper_for(house, woods, book)))


if __name__ == "__main__":
    unittest.main()
