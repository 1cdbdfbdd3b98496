import itertools
import random
import unittest

from hearths.blazes import is_blaze, made_rooms
from hearths.errors import BadBook, BadNumber, BadWoods, NoRoom, SameRoom
from hearths.fewfires import few_blaze, fire_numbers
from hearths.fires import is_fire
from hearths.opendoors import walled
from hearths.twofires import meeting_doors, two_fires, two_paper
from tests.brute import (all_blazes, blazes_of_book, book_of_blaze, great_houses, house_of, made_in, moved, path,
                         random_house, random_woods, small_cases)
from tests.test_fires import H, W
from tests.test_ways import raised
from tests.wrong import BOOKS, FROM_ONE, ROOMS, WOODS, check_errors, in_turns, one_room, turned_dict


def first_in(house, woods, blaze, part, room):
    """Whether a part of a blaze is a fire with this first room."""
    fire = {far: blaze[far] for far in part.rooms()}
    there = {far: woods[far] for far in part.rooms()}
    return is_fire(part, there, fire) and all(fire[far] > fire[room] for far in fire if far != room)


def doors_of(house, woods, blaze, one, other):
    rooms = path(house, one, other)
    doors = []
    for near, far in zip(rooms, rooms[1:]):
        parts = walled(house, near, far)
        if first_in(house, woods, blaze, parts[0], one) and first_in(house, woods, blaze, parts[1], other):
            doors.append((near, far))
    return doors


class TwoFires(unittest.TestCase):
    """[80]"""

    def test_small_houses(self):
        long = {}
        for chance, house, woods in small_cases(260, 130, 5, 2):
            if len(house) == 1:
                continue
            blazes = all_blazes(house, woods)
            one, other = chance.sample(house.rooms(), 2)
            two = [(blaze, doors_of(house, woods, blaze, one, other)) for blaze in blazes
                   if made_in(house, blaze) == sorted([one, other])]
            self.assertTrue(all(doors for _, doors in two))
            for turn in range(5):
                book = book_of_blaze(chance, house, woods)
                if turn < 3:
                    blaze, _ = chance.choice(two)
                    book = {room: blaze[room] + chance.choice([0, 0, 0, 0, 1]) for room in book}
                paper = self.check(house, woods, book, one, other, two)
                long[paper and len(paper)] = long.get(paper and len(paper), 0) + 1
        self.assertTrue(all(long.get(many, 0) > 5 for many in (None, 2, 3)))

    def having(self, two, book):
        noted = next(iter(book))
        there = [(moved(blaze, book[noted] - blaze[noted]), doors) for blaze, doors in two]
        return [(blaze, doors) for blaze, doors in there if all(blaze[room] == hour for room, hour in book.items())]

    def check(self, house, woods, book, one, other, two):
        there = self.having(two, book)
        rooms = path(house, one, other)
        doors = [door for door in zip(rooms, rooms[1:]) if any(door in told for _, told in there)]
        self.assertEqual(meeting_doors(house, woods, book, one, other), doors)
        self.assertTrue(not doors or all(before[1] == door[0] for before, door in zip(doors, doors[1:])))
        blaze, paper = two_fires(house, woods, book, one, other), two_paper(house, woods, book, one, other)
        self.assertTrue((blaze is None) != (paper is None))
        self.assertEqual(blaze is not None, bool(there))
        if blaze is not None:
            self.assertIn(blaze, [told for told, _ in there])
            self.assertEqual(list(blaze), house.rooms())
            return None
        papers = [list(some) for many in range(1, len(book) + 1) for some in itertools.combinations(sorted(book), many)
                  if not self.having(two, {room: book[room] for room in some})]
        self.assertEqual(paper, papers[0])
        self.assertTrue(2 <= len(paper) <= 4)
        return paper

    def test_empty_book(self):
        for _, house, woods in small_cases(261, 30, 6):
            for one, other in itertools.permutations(house.rooms(), 2):
                rooms = path(house, one, other)
                self.assertEqual(meeting_doors(house, woods, {}, one, other), list(zip(rooms, rooms[1:])))
                blaze = two_fires(house, woods, {}, one, other)
                self.assertEqual(made_rooms(house, woods, blaze), sorted([one, other]))
                self.assertIsNone(two_paper(house, woods, {}, one, other))

    def test_rooms_beside_one_another(self):
        self.assertEqual(meeting_doors(H, W, {"a": 4, "b": 4}, "b", "a"), [("b", "a")])
        self.assertEqual(meeting_doors(H, W, {"a": 4, "b": 5}, "a", "b"), [])
        self.assertEqual(two_paper(H, W, {"a": 4, "b": 3}, "a", "b"), ["a", "b"])

    def test_twenty_rooms(self):
        papers = 0
        for number, house in enumerate(great_houses(20)):
            for most in (3, 999999999):
                chance = random.Random(number)
                woods = random_woods(chance, house, most)
                one, other = chance.sample(house.rooms(), 2)
                blaze = two_fires(house, woods, {}, one, other)
                for some, change in ((20, 0), (20, 1), (6, 0), (6, -1), (12, 2)):
                    book = {room: blaze[room] for room in chance.sample(house.rooms(), some)}
                    book[list(book)[0]] += change * chance.randint(1, most)
                    told, paper = two_fires(house, woods, book, one, other), two_paper(house, woods, book, one, other)
                    self.assertTrue((told is None) != (paper is None))
                    self.assertEqual(bool(meeting_doors(house, woods, book, one, other)), paper is None)
                    if paper:
                        papers += 1
                        self.assertTrue(2 <= len(paper) <= 4)
                        some = {room: book[room] for room in paper}
                        self.assertIsNone(two_fires(house, woods, some, one, other))
                        for room in paper:
                            rest = {far: some[far] for far in paper if far != room}
                            self.assertIsNotNone(two_fires(house, woods, rest, one, other))
                    else:
                        self.assertIs(is_blaze(house, woods, told), True)
                        self.assertEqual(made_rooms(house, woods, told), sorted([one, other]))
                        self.assertTrue(all(told[room] == hour for room, hour in book.items()))
        self.assertGreater(papers, 10)

    def test_errors(self):
        for call in (meeting_doors, two_fires, two_paper):
            check_errors(self, call, (H, W, {"b": 2}, "a", "c"),
                         [(1, BadWoods, WOODS), (2, BadBook, BOOKS), (3, NoRoom, ROOMS), (4, NoRoom, ROOMS)])
            self.assertEqual(raised(self, SameRoom, call, H, W, {"b": 2}, "c", "c").room, "c")
            self.assertEqual(raised(self, SameRoom, call, one_room(), {"a": 1}, {}, "a", "a").room, "a")
            self.assertIsNone(raised(self, NoRoom, call, H, W, {}, None, None).thing)

    def test_example(self):
        """[82]"""
        self.assertEqual(meeting_doors(H, W, {"b": 2, "d": 3}, "a", "c"), [("a", "b"), ("b", "c")])
        self.assertEqual(two_paper(H, W, {"a": 0, "b": 3}, "a", "c"), ["a", "b"])

    def test_in_turns(self):
        book, other = {"b": 2, "d": 3}, {"a": 0, "c": 0}
        in_turns(self, [lambda: two_fires(H, W, book, "a", "c"), lambda: two_fires(H, W, other, "a", "c"),
                        lambda: two_fires(H, turned_dict(W), turned_dict(book), "a", "c"),
                        lambda: two_fires(H, dict(W, a=9), book, "a", "c"), lambda: fire_numbers(H, W, book),
                        lambda: few_blaze(H, W, book, 2), lambda: few_blaze(H, turned_dict(W), turned_dict(book), 2),
                        lambda: fire_numbers(H, dict(W, a=1), other), lambda: meeting_doors(H, W, book, "a", "c")])
        told, woods = {"a": 0, "b": 3}, dict(W)
        self.assertIsNone(two_fires(H, woods, told, "a", "d"))
        woods["a"] = 3
        self.assertIsNotNone(two_fires(H, woods, told, "a", "d"))
        told["b"] = 4
        self.assertIsNone(two_fires(H, woods, told, "a", "d"))
        self.assertEqual(fire_numbers(H, woods, told), [])
        told["b"] = 0
        self.assertEqual(fire_numbers(H, woods, told), [2, 3, 4])


class FewFires(unittest.TestCase):
    """[81]"""

    def test_small_houses(self):
        gaps = 0
        for chance, house, woods in small_cases(262, 100, 5, 3):
            blazes = all_blazes(house, woods)
            for _ in range(3):
                book = book_of_blaze(chance, house, woods)
                numbers = sorted({len(made_in(house, blaze)) for blaze in blazes_of_book(blazes, book)})
                gaps += bool(numbers) and len(numbers) != numbers[-1] - numbers[0] + 1
                self.check(house, woods, book, numbers)
            self.check(house, woods, {}, sorted({len(made_in(house, blaze)) for blaze in blazes}))
        self.assertGreater(gaps, 0)

    def check(self, house, woods, book, numbers):
        self.assertEqual(fire_numbers(house, woods, book), numbers)
        for number in range(1, len(house) + 2):
            blaze = few_blaze(house, woods, book, number)
            self.assertEqual(blaze is not None, number in numbers)
            if blaze is not None:
                self.assertIs(is_blaze(house, woods, blaze), True)
                self.assertEqual(list(blaze), house.rooms())
                self.assertEqual(len(made_rooms(house, woods, blaze)), number)
                self.assertTrue(all(blaze[room] == hour for room, hour in book.items()))

    def test_numbers_between_can_be_missing(self):
        house = house_of("ad bd cd")
        for wood in (1, 9):
            woods = {"a": 2, "b": 2, "c": 3, "d": wood}
            book = {"a": 3, "b": 3, "c": 0}
            blazes = blazes_of_book(all_blazes(house, woods), book)
            self.check(house, woods, book, sorted({len(made_in(house, blaze)) for blaze in blazes}))
        self.assertEqual(fire_numbers(house, {"a": 2, "b": 2, "c": 3, "d": 1}, {"a": 3, "b": 3, "c": 0}), [1, 3])

    def test_eight_rooms(self):
        """woods to 4, in good time"""
        for seed in range(6):
            chance = random.Random(seed)
            house = random_house(chance, 8)
            woods = random_woods(chance, house, 4) if seed else {room: 4 for room in house.rooms()}
            one, other = house.rooms()[0], house.rooms()[-1]
            for book in ({}, {one: 0}, {one: 0, other: 5}, {one: -10, other: 10}, {one: 4, other: 4}):
                numbers = fire_numbers(house, woods, book)
                self.check(house, woods, book, numbers)

    def test_edges(self):
        self.assertEqual(fire_numbers(H, W, {"a": 0, "c": 6}), [])
        self.assertIsNone(few_blaze(H, W, {"a": 0, "c": 6}, 1))
        self.assertIsNone(few_blaze(H, W, {}, 5))
        self.assertIsNone(few_blaze(H, W, {}, 999999999))
        self.assertEqual(fire_numbers(one_room(), {"a": 2}, {}), [1])
        self.assertEqual(few_blaze(one_room(), {"a": 2}, {"a": 7}, 1), {"a": 7})

    def test_errors(self):
        rows = [(1, BadWoods, WOODS), (2, BadBook, BOOKS)]
        check_errors(self, fire_numbers, (H, W, {"a": 0}), rows)
        check_errors(self, few_blaze, (H, W, {"a": 0}, 1), rows + [(3, BadNumber, FROM_ONE)])

    def test_example(self):
        """[82]"""
        self.assertEqual(fire_numbers(H, W, {"a": 0, "c": 5}), [1, 2])


if __name__ == "__main__":
    unittest.main()
