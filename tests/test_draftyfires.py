import itertools
import random
import unittest

from hearths.books import fits
from hearths.draftycounts import drafty_at, drafty_count
from hearths.draftyfires import drafty_fire, drafty_firsts, drafty_hours, drafty_paper, is_drafty_paper
from hearths.drafts import blown_out
from hearths.errors import BadBook, BadDrafts, BadNumber, BadWoods, NoRoom
from hearths.fires import is_fire
from tests.brute import (all_fires, all_fitting, great_houses, moved, path, random_book, random_house, random_woods,
                         small_cases, stretches_of)
from tests.test_drafts import BAD_SHUT, D, UNSAFE, blown, random_drafts
from tests.test_fires import H, W
from tests.test_fittings import fire_of
from tests.test_twohours import H6, W6
from tests.test_ways import raised
from tests.wrong import ALL, BOOKS, ROOMS, WOODS, check_errors, in_turns, is_number, one_room, turned_dict, with_lists


def all_drafty(house, woods, drafts, book):
    return [(first, fire) for first, fire in all_fitting(house, woods, book) if not blown(house, drafts, first, fire)]


def cases(seed, many, most_rooms=5, most_wood=3, change=0.2):
    for chance, house, woods in small_cases(seed, many, most_rooms, most_wood):
        drafts = random_drafts(chance, house, woods, -5, 12)
        book = random_book(chance, house, woods, change)
        fires = [fire for first, fire in all_fires(house, woods) if not blown(house, drafts, first, fire)]
        if chance.random() < 0.5 and fires:
            fire = chance.choice(fires)
            book = {room: fire[room] for room in book}
        yield chance, house, woods, drafts, book


class TheRule(unittest.TestCase):
    """[68]"""

    def test_small_houses(self):
        long = {}
        for chance, house, woods, drafts, book in cases(210, 300, 6, 2):
            paper = self.check(chance, house, woods, drafts, book)
            long[paper and len(paper)] = long.get(paper and len(paper), 0) + 1
        self.assertTrue(all(long.get(many) for many in (None, 2, 3)))

    def check(self, chance, house, woods, drafts, book):
        fire, paper = drafty_fire(house, woods, drafts, book), drafty_paper(house, woods, drafts, book)
        self.assertTrue((fire is None) != (paper is None))
        fires = all_drafty(house, woods, drafts, book)
        self.assertEqual(fire is not None, bool(fires))
        if fire is not None:
            self.check_fire(house, woods, drafts, book, fire)
        papers = [list(some) for many in range(1, len(book) + 1) for some in itertools.combinations(sorted(book), many)
                  if not all_drafty(house, woods, drafts, {room: book[room] for room in some})]
        self.assertEqual(paper, papers[0] if papers else None)
        self.assertTrue(paper is None or 2 <= len(paper) <= 4)
        for some in papers:
            chance.shuffle(some)
            self.assertIs(is_drafty_paper(house, woods, drafts, book, some), True)
            self.assertIs(is_drafty_paper(house, woods, drafts, book, tuple(some)), True)
        for many in range(1, len(book) + 1):
            for some in itertools.combinations(sorted(book), many):
                if list(some) not in [sorted(rooms) for rooms in papers]:
                    self.assertIs(is_drafty_paper(house, woods, drafts, book, list(some)), False)
        return paper

    def check_fire(self, house, woods, drafts, book, fire):
        self.assertTrue(is_fire(house, woods, fire) and fits(house, woods, book, fire))
        self.assertEqual(blown_out(house, woods, drafts, fire), [])
        self.assertEqual(list(fire), house.rooms())

    def test_any_object(self):
        book = {"a": 4, "b": 5}
        for thing in ALL + [["a", thing] for thing in ALL] + [["a", "b", "a"], ["b"], ["a"], ["a", "b", "c"], "ab"]:
            self.assertIs(is_drafty_paper(H, W, D, book, thing), False)
        self.assertIs(is_drafty_paper(H, W, D, book, ("b", "a")), True)
        more = dict(book, c=9, d=-9)
        self.assertIs(is_drafty_paper(H, W, D, more, ["d", "c", "b", "a"]), True)

    def test_four_rooms(self):
        book = {"a": 0, "b": 3, "c": 2, "d": 0}
        for drafts in ({}, {("a", "x"): [7, 9]}):
            self.assertEqual(drafty_paper(H6, W6 | {"a": 2}, drafts, book), ["a", "b", "c", "d"])
        self.assertEqual(drafty_paper(H6, W6, {("x", "y"): [1, 2]}, book), ["a", "b", "c", "d"])

    def test_empty_book(self):
        for chance, house, woods, drafts, _ in cases(211, 40):
            self.check_fire(house, woods, drafts, {}, drafty_fire(house, woods, drafts, {}))
            self.assertIsNone(drafty_paper(house, woods, drafts, {}))
            self.assertIs(is_drafty_paper(house, woods, drafts, {}, []), False)

    def test_twenty_rooms(self):
        papers = 0
        for number, house in enumerate(great_houses(20)):
            for most in (2, 5, 999999999):
                chance = random.Random(number)
                woods = random_woods(chance, house, most)
                fire = fire_of(chance, house, woods)
                begin = min(fire.values())
                drafts = random_drafts(chance, house, woods, begin - 5, begin + 25)
                for some, change in ((20, 0), (20, 1), (7, 0), (4, 1)):
                    book = {room: fire[room] for room in chance.sample(house.rooms(), some)}
                    book[list(book)[0]] += change
                    told, paper = drafty_fire(house, woods, drafts, book), drafty_paper(house, woods, drafts, book)
                    self.assertTrue((told is None) != (paper is None))
                    if told:
                        self.check_fire(house, woods, drafts, book, told)
                    else:
                        papers += 1
                        self.assertTrue(is_drafty_paper(house, woods, drafts, book, paper))
                        for room in paper:
                            rest = {far: book[far] for far in paper if far != room}
                            self.assertIsNotNone(drafty_fire(house, woods, drafts, rest))
        self.assertGreater(papers, 10)


class FirstRooms(unittest.TestCase):
    """[69]"""

    def test_small_houses(self):
        gaps = 0
        for _, house, woods, drafts, book in cases(212, 250, 5, 3, 0.1):
            fires = all_drafty(house, woods, drafts, book)
            firsts = sorted({first for first, _ in fires})
            self.assertEqual(drafty_firsts(house, woods, drafts, book), firsts)
            for one, other in itertools.combinations(firsts, 2):
                self.assertTrue(set(path(house, one, other)) <= set(firsts))
            for room in house.rooms():
                stretches = stretches_of({fire[room] for _, fire in fires})
                gaps += len(stretches) > 1
                self.assertEqual(drafty_hours(house, woods, drafts, book, room), stretches)
        self.assertGreater(gaps, 50)

    def test_empty_book(self):
        self.assertEqual(drafty_firsts(H, W, D, {}), ["a", "b", "c", "d"])
        self.assertEqual(drafty_hours(H, W, D, {}, "c"), [(None, None)])
        self.assertEqual(drafty_firsts(H, W, D, {"a": 4, "b": 5}), [])
        self.assertEqual(drafty_hours(H, W, D, {"a": 4, "b": 5}, "c"), [])

    def test_great_hours(self):
        woods = {room: 999999999 for room in "abcd"}
        self.assertEqual(drafty_hours(H, woods, D, {"a": 0}, "b"),
                         [(-999999999, -1), (1, 4), (6, 999999999)])
        self.assertEqual(drafty_hours(H, woods, {("b", "c"): [5, 7]}, {"b": 0}, "c"),
                         [(-999999999, -1), (1, 4), (6, 6), (8, 999999999)])

    def test_errors(self):
        rows = [(1, BadWoods, WOODS), (2, BadDrafts, BAD_SHUT + UNSAFE), (3, BadBook, BOOKS)]
        for call in (drafty_fire, drafty_paper, drafty_firsts, drafty_count):
            check_errors(self, call, (H, W, D, {"a": 4}), rows)
        check_errors(self, is_drafty_paper, (H, W, D, {"a": 4}, None), rows)
        check_errors(self, drafty_hours, (H, W, D, {"a": 4}, "b"), rows + [(4, NoRoom, ROOMS)])

    def test_example(self):
        """[74]"""
        self.assertEqual(drafty_paper(H, W, D, {"a": 4, "b": 5}), ["a", "b"])
        self.assertEqual(drafty_firsts(H, W, D, {"b": 6, "d": 8}), ["a", "b", "c"])
        self.assertEqual(drafty_count(H, W, D, {"b": 6}), 63)

    def test_in_turns(self):
        other, book, far = {("b", "c"): []}, {"b": 6, "d": 8}, {"c": 5}
        in_turns(self, [lambda: drafty_fire(H, W, D, book), lambda: drafty_fire(H, W, other, book),
                        lambda: drafty_fire(H, turned_dict(W), turned_dict(with_lists(D)), turned_dict(book)),
                        lambda: drafty_hours(H, W, D, far, "a"), lambda: drafty_hours(H, W, other, far, "a"),
                        lambda: drafty_hours(H, dict(W, a=7), D, far, "a"), lambda: drafty_firsts(H, W, D, book),
                        lambda: drafty_paper(H, W, D, {"a": 4, "b": 5}), lambda: drafty_at(H, W, D, far, 3),
                        lambda: drafty_count(H, W, D, far), lambda: drafty_count(H, dict(W, a=1), {}, book)])
        shut, told, woods = {("a", "b"): [5]}, {"a": 4, "b": 5}, dict(W)
        self.assertIsNone(drafty_fire(H, woods, shut, told))
        shut[("a", "b")] = [6]
        self.assertIsNotNone(drafty_fire(H, woods, shut, told))
        told["b"] = 6
        self.assertEqual(drafty_count(H, woods, shut, told), 0)
        shut.clear()
        self.assertEqual(drafty_count(H, woods, shut, told), 9)
        woods["a"] = 1
        self.assertEqual(drafty_count(H, woods, shut, told), 0)


class Counted(unittest.TestCase):
    """[70]"""

    def test_small_houses(self):
        for chance, house, woods, drafts, book in cases(213, 150, 5, 3, 0.1):
            fires = [fire for _, fire in all_drafty(house, woods, drafts, book)]
            rows = sorted([fire[room] for room in house.rooms()] for fire in fires)
            self.assertEqual(drafty_count(house, woods, drafts, book), len(rows))
            for number in sorted(chance.sample(range(len(rows)), min(12, len(rows)))):
                fire = drafty_at(house, woods, drafts, book, number)
                self.assertEqual(list(fire.items()), list(zip(house.rooms(), rows[number])))
            for number in (-1, len(rows), len(rows) + 5):
                self.assertEqual(raised(self, BadNumber, drafty_at, house, woods, drafts, book, number).thing, number)

    def test_all_numbers(self):
        for _, house, woods, drafts, book in cases(214, 8, 4, 3, 0):
            rows = sorted([fire[room] for room in house.rooms()]
                          for _, fire in all_drafty(house, woods, drafts, book))
            told = [list(drafty_at(house, woods, drafts, book, number).values()) for number in range(len(rows))]
            self.assertEqual(told, rows)

    def test_eight_rooms(self):
        """woods to 4, in good time"""
        for seed in range(4):
            chance = random.Random(seed)
            house = random_house(chance, 8)
            woods = {room: 4 for room in house.rooms()}
            drafts = random_drafts(chance, house, woods, -15, 15)
            book = {chance.choice(house.rooms()): 0}
            many = drafty_count(house, woods, drafts, book)
            fires = [drafty_at(house, woods, drafts, book, number) for number in (0, many // 2, many - 1)]
            rows = [[fire[room] for room in house.rooms()] for fire in fires]
            self.assertEqual(rows, sorted(rows))
            for fire in fires:
                self.assertTrue(is_fire(house, woods, fire) and fits(house, woods, book, fire))
                self.assertEqual(blown_out(house, woods, drafts, fire), [])
            if seed == 0:
                self.assertEqual(many, len(all_drafty(house, woods, drafts, book)))

    def test_empty_book(self):
        self.assertIsNone(drafty_count(H, W, D, {}))
        book = {}
        self.assertIs(raised(self, BadBook, drafty_at, H, W, D, book, None).thing, book)
        self.assertEqual(drafty_count(H, W, D, {"a": 4, "b": 5}), 0)
        raised(self, BadNumber, drafty_at, H, W, D, {"a": 4, "b": 5}, 0)

    def test_one_room(self):
        house = one_room()
        self.assertEqual(drafty_count(house, {"a": 3}, {}, {"a": 7}), 1)
        self.assertEqual(drafty_at(house, {"a": 3}, {}, {"a": 7}, 0), {"a": 7})
        self.assertEqual(drafty_hours(house, {"a": 3}, {}, {"a": 7}, "a"), [(7, 7)])

    def test_errors(self):
        numbers = [thing for thing in ALL if not is_number(thing)] + [-1, 63, 10 ** 30]
        check_errors(self, drafty_at, (H, W, D, {"b": 6}, 62),
                     [(1, BadWoods, WOODS), (2, BadDrafts, BAD_SHUT + UNSAFE), (3, BadBook, BOOKS),
                      (4, BadNumber, numbers)])
        self.assertEqual(moved(drafty_at(H, W, {}, {"b": 6}, 0), 0), drafty_at(H, W, {}, {"b": 6}, 0))


if __name__ == "__main__":
    unittest.main()
