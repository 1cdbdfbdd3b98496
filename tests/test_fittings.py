import random
import unittest
from collections import Counter

from hearths.errors import BadBook, BadFire, BadNumber, BadWoods, NoRoom, NotFitting, NothingTold
from hearths.fires import first_of
from hearths.fittingnumbers import fitting_at, fitting_number
from hearths.fittings import count_by_first, count_fitting, hour_counts
from hearths.houses import House
from tests.brute import (all_fires, all_fitting, great_houses, moved, random_book, row_house, sample_of_objects,
                         small_cases)
from tests.test_firenumbers import place
from tests.test_fires import BAD_WOODS, F, H, W
from tests.test_ways import raised


def fire_of(chance, house, woods):
    """Some fire of a house that is too great for all of them."""
    near = {room: [] for room in house.rooms()}
    for one, other in house.doors():
        near[one].append(other)
        near[other].append(one)
    fire = {chance.choice(house.rooms()): chance.randint(-99, 99)}
    todo = list(fire)
    while todo:
        room = todo.pop()
        for far in near[room]:
            if far not in fire:
                fire[far] = fire[room] + chance.randint(1, woods[room])
                todo.append(far)
    return fire


class Counted(unittest.TestCase):
    """[36], [37], [38]"""

    def test_small_houses(self):
        for chance, house, woods in small_cases(110, 150, 6):
            self.check(house, woods, random_book(chance, house, woods, 0.2))

    def test_one_room_noted(self):
        for _, house, woods in small_cases(111, 30, 5):
            for room in house.rooms():
                self.check(house, woods, {room: -11})

    def check(self, house, woods, book):
        fires = all_fitting(house, woods, book)
        self.assertEqual(count_fitting(house, woods, book), len(fires))
        begun = Counter(first for first, _ in fires)
        self.assertEqual(list(count_by_first(house, woods, book).items()), sorted(begun.items()))
        for room in house.rooms():
            hours = Counter(fire[room] for _, fire in fires)
            self.assertEqual(list(hour_counts(house, woods, book, room).items()), sorted(hours.items()))

    def test_none_fits(self):
        book = {"a": 0, "b": 99}
        self.assertEqual(count_fitting(H, W, book), 0)
        self.assertEqual(count_by_first(H, W, book), {})
        for room in H.rooms():
            self.assertEqual(hour_counts(H, W, book, room), {})

    def test_thirty_rooms(self):
        for number, house in enumerate(great_houses(30)):
            chance = random.Random(number)
            woods = {room: chance.randint(1, 60) for room in house.rooms()}
            fire = fire_of(chance, house, woods)
            for some in (1, 2, 5, 15):
                book = {room: fire[room] + 999990000 for room in chance.sample(house.rooms(), some)}
                self.great_one(house, woods, book)

    def great_one(self, house, woods, book):
        many = count_fitting(house, woods, book)
        self.assertGreater(many, 0)
        self.assertEqual(sum(count_by_first(house, woods, book).values()), many)
        for room in house.rooms()[::6]:
            counts = hour_counts(house, woods, book, room)
            self.assertEqual(sum(counts.values()), many)
            if room in book:
                self.assertEqual(counts, {book[room]: many})
            hour = max(counts, key=counts.get)
            self.assertEqual(count_fitting(house, woods, dict(book, **{room: hour})), counts[hour])

    def test_thirty_rooms_in_a_row(self):
        house = row_house(30)
        woods = {room: 60 for room in house.rooms()}
        counts = hour_counts(house, woods, {"n00": 0}, "n29")
        self.assertEqual((min(counts), max(counts)), (-29 * 60, 29 * 60))
        self.assertEqual(sum(counts.values()), count_fitting(house, woods, {"n00": 0}))
        self.assertEqual(count_by_first(house, woods, {"n00": 0}), {room: 60 ** 29 for room in house.rooms()})

    def test_example(self):
        book = {"a": 0, "c": 3}
        self.assertEqual(count_fitting(H, W, book), 6)
        self.assertEqual(count_by_first(H, W, book), {"a": 6})
        self.assertEqual(hour_counts(H, W, book, "d"), {2: 1, 3: 2, 4: 2, 5: 1})
        book = {"a": 5, "c": 5}
        self.assertEqual(count_by_first(H, W, book), {"b": 9, "d": 3})
        self.assertEqual(hour_counts(H, W, book, "d"), {1: 1, 2: 1, 3: 2, 4: 2, 5: 3, 6: 2, 7: 1})


class InOrder(unittest.TestCase):
    """[39]"""

    def test_small_houses(self):
        for chance, house, woods in small_cases(112, 70, 5):
            book = random_book(chance, house, woods, 0.1)
            fires = sorted(all_fitting(house, woods, book), key=lambda pair: place(house, *pair))
            for number, (_, fire) in enumerate(fires):
                self.assertEqual(list(fitting_at(house, woods, book, number).items()), sorted(fire.items()))
                self.assertEqual(fitting_number(house, woods, book, fire), number)
            for thing in (len(fires), -1, None, True):
                self.assertIs(raised(self, BadNumber, fitting_at, house, woods, book, thing).thing, thing)
            for _, fire in chance.choices(all_fires(house, woods), k=5):
                self.check_not_fitting(house, woods, book, moved(fire, 1))

    def check_not_fitting(self, house, woods, book, fire):
        wrong = [room for room in sorted(book) if fire[room] != book[room]]
        if wrong:
            self.assertEqual(raised(self, NotFitting, fitting_number, house, woods, book, fire).room, wrong[0])

    def test_twelve_rooms(self):
        for number, house in enumerate(great_houses(12)):
            chance = random.Random(number)
            woods = {room: chance.randint(1, 20) for room in house.rooms()}
            for some in (1, 3, 6):
                fire = fire_of(chance, house, woods)
                book = {room: fire[room] for room in chance.sample(house.rooms(), some)}
                many = count_fitting(house, woods, book)
                self.assertEqual(fitting_at(house, woods, book, fitting_number(house, woods, book, fire)), fire)
                for asked in (0, many // 2, many - 1):
                    told = fitting_at(house, woods, book, asked)
                    self.assertEqual(fitting_number(house, woods, book, told), asked)
                ends = [first_of(house, woods, fitting_at(house, woods, book, asked)) for asked in (0, many - 1)]
                begun = list(count_by_first(house, woods, book))
                self.assertEqual(ends, [begun[0], begun[-1]])

    def test_example(self):
        self.assertEqual(fitting_at(H, W, {"a": 5, "c": 5}, 0), {"a": 5, "b": 4, "c": 5, "d": 5})


class Errors(unittest.TestCase):
    def test_order(self):
        calls = ((count_fitting, ()), (count_by_first, ()), (hour_counts, (None,)), (fitting_at, (None,)),
                 (fitting_number, (None,)))
        bad_books = [thing for thing in sample_of_objects(H) if thing != {}] + [{"a": True}, {"a": 1, "e": 2}]
        for call, things in calls:
            for thing in BAD_WOODS + sample_of_objects(H):
                self.assertIs(raised(self, BadWoods, call, H, thing, None, *things).thing, thing)
            for thing in bad_books:
                self.assertIs(raised(self, BadBook, call, H, W, thing, *things).thing, thing)
            raised(self, NothingTold, call, H, W, {}, *things)
        for thing in sample_of_objects(H) + [dict(F, d=6)]:
            self.assertIs(raised(self, BadFire, fitting_number, H, W, {"a": 3}, thing).thing, thing)
            if not isinstance(thing, dict):
                self.assertIs(raised(self, NoRoom, hour_counts, H, W, {"a": 0, "b": 99}, thing).thing, thing)

    def test_bad_numbers(self):
        for thing in [6, -1, True, False, None, "0", [], {}, 10 ** 40, H, len]:
            self.assertIs(raised(self, BadNumber, fitting_at, H, W, {"a": 0, "c": 3}, thing).thing, thing)
        self.assertEqual(raised(self, BadNumber, fitting_at, H, W, {"a": 0, "b": 99}, 0).thing, 0)

    def test_not_fitting(self):
        self.assertEqual(raised(self, NotFitting, fitting_number, H, W, {"d": 9, "c": 8, "b": 5}, F).room, "b")
        self.assertEqual(fitting_number(H, W, {"d": 9, "c": 7}, F) >= 0, True)

    def test_one_room(self):
        house, woods, book = House(["a"], []), {"a": 2}, {"a": -3}
        self.assertEqual(count_by_first(house, woods, book), {"a": 1})
        self.assertEqual(hour_counts(house, woods, book, "a"), {-3: 1})
        self.assertEqual(fitting_at(house, woods, book, 0), {"a": -3})
        self.assertEqual(fitting_number(house, woods, book, {"a": -3}), 0)

    def test_told_new_and_passed_unchanged(self):
        book = {"c": 3, "a": 0}
        for call, things in ((count_by_first, ()), (hour_counts, ("d",)), (fitting_at, (0,))):
            same = call(H, W, book, *things)
            call(H, W, book, *things).clear()
            self.assertEqual(call(H, W, book, *things), same)
        self.assertEqual(list(book.items()), [("c", 3), ("a", 0)])


if __name__ == "__main__":
    unittest.main()
