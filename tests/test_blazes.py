import itertools
import random
import unittest

from hearths.blazebooks import blaze_hours, blaze_of, late_pair
from hearths.blazes import fire_meetings, is_blaze, late_door, made_rooms, whose_fire
from hearths.errors import BadBlaze, BadBook, BadWhole, BadWoods, NoRoom
from hearths.fires import is_fire
from tests.brute import (all_blazes, all_fires, blazes_of_book, book_of_blaze, great_houses, made_in, moved, path,
                         random_woods, small_cases, ways_on)
from tests.test_fires import F, H, W
from tests.wrong import ALL, BOOKS, ROOMS, WOODS, check_errors, in_turns, one_room, turned_dict

NO_WHOLES = ALL + [{"a": 4, "b": 6, "c": 7}, dict(F, c=True), dict(F, x=1), dict(F, c=None), dict(F, c="7"),
                   {"a": 1, "b": 1, "c": 1, "D": 1}, list(F.items())]
NO_BLAZES = NO_WHOLES + [dict(F, d=10), dict(F, a=10), dict(F, c=8, b=9)]


class Blazes(unittest.TestCase):
    """[75]"""

    def test_small_houses(self):
        for chance, house, woods in small_cases(230, 60, 4, 2):
            names = house.rooms()
            blazes = {tuple(blaze[room] for room in names) for blaze in all_blazes(house, woods)}
            for hours in itertools.product(range(-4, 5), repeat=len(names) - 1):
                whole = dict(zip(names, (0,) + hours))
                late = [(one, other) for one in names for other in ways_on(house, one)
                        if whole[other] - whole[one] > woods[one]]
                self.assertEqual(late_door(house, woods, whole), min(late, default=None))
                self.assertIs(is_blaze(house, woods, turned_dict(whole)), not late)
                if max(hours, default=0) <= 2 and min(hours, default=0) >= -2:
                    self.assertEqual((0,) + hours in blazes, not late)
                if not late:
                    made = made_in(house, whole)
                    self.assertEqual(made_rooms(house, woods, moved(whole, 3)), made)
                    self.assertEqual(is_fire(house, woods, whole), len(made) == 1 and not self.alike(house, whole))

    def alike(self, house, whole):
        """Two rooms beside one another at one hour: then more than one is made."""
        return any(whole[one] == whole[other] for one, other in house.doors())

    def test_fires_are_blazes_with_one_made_room(self):
        for _, house, woods in small_cases(231, 40, 5):
            fires = [fire for _, fire in all_fires(house, woods)]
            for first, fire in all_fires(house, woods):
                self.assertEqual(made_rooms(house, woods, fire), [first])
            blazes = [moved(blaze, -min(blaze.values())) for blaze in all_blazes(house, woods)]
            single = [blaze for blaze in blazes if len(made_rooms(house, woods, blaze)) == 1]
            self.assertEqual(len(single), len(fires))
            self.assertTrue(all(blaze in fires for blaze in single))

    def test_any_object(self):
        for thing in NO_BLAZES:
            self.assertIs(is_blaze(H, W, thing), False)
        self.assertIs(is_blaze(H, W, {room: 5 for room in "dbca"}), True)
        self.assertIs(is_blaze(one_room(), {"a": 1}, {"a": 5}), True)

    def test_errors(self):
        rows = [(1, BadWoods, WOODS)]
        check_errors(self, is_blaze, (H, W, F), rows)
        check_errors(self, late_door, (H, W, F), rows + [(2, BadWhole, NO_WHOLES)])
        for call in (made_rooms, fire_meetings):
            check_errors(self, call, (H, W, F), rows + [(2, BadBlaze, NO_BLAZES)])
        check_errors(self, whose_fire, (H, W, F, "a"), rows + [(2, BadBlaze, NO_BLAZES), (3, NoRoom, ROOMS)])

    def test_sixty_rooms(self):
        for number, house in enumerate(great_houses()):
            chance = random.Random(number)
            woods = random_woods(chance, house, 999999999)
            whole = {room: chance.randint(0, 1) for room in house.rooms()}
            self.assertIs(is_blaze(house, woods, whole), True)
            self.assertEqual(made_rooms(house, woods, whole), made_in(house, whole))
            room = house.rooms()[7]
            near = ways_on(house, room)[0]
            self.assertEqual(set(late_door(house, woods, dict(whole, **{room: whole[near] + 10 ** 9 + 5}))[1:]), {room})


class Meetings(unittest.TestCase):
    """[77]"""

    def test_small_houses(self):
        for _, house, woods in small_cases(232, 50, 4, 2):
            for blaze in all_blazes(house, woods):
                made = made_in(house, blaze)
                meetings = fire_meetings(house, woods, blaze)
                told = [("door", one, other) for one, other in house.doors() if blaze[one] == blaze[other]]
                for room in house.rooms():
                    many = sum(blaze[far] < blaze[room] for far in ways_on(house, room))
                    told += [("room", room, many)] if many > 1 else []
                self.assertEqual(meetings, sorted(told))
                self.assertEqual(len(made), 1 + sum(1 if row[0] == "door" else row[2] - 1 for row in meetings))
                for room in house.rooms():
                    whose = []
                    for begin in made:
                        hours = [blaze[here] for here in path(house, begin, room)]
                        whose += [begin] if hours == sorted(set(hours)) else []
                    self.assertEqual(whose_fire(house, woods, blaze, room), whose)
                    self.assertTrue(whose)

    def test_one_room(self):
        self.assertEqual(fire_meetings(one_room(), {"a": 1}, {"a": 3}), [])
        self.assertEqual(whose_fire(one_room(), {"a": 1}, {"a": 3}, "a"), ["a"])
        self.assertEqual(made_rooms(one_room(), {"a": 1}, {"a": 3}), ["a"])
        self.assertEqual(fire_meetings(H, W, {"a": 0, "b": 1, "c": 0, "d": 1}), [("door", "b", "d"), ("room", "b", 2)])
        self.assertEqual(whose_fire(H, W, {"a": 0, "b": 1, "c": 0, "d": 1}, "b"), ["a", "c"])


class Books(unittest.TestCase):
    """[76]"""

    def test_small_houses(self):
        seen = {True: 0, False: 0}
        for chance, house, woods in small_cases(233, 150, 5, 2):
            blazes = all_blazes(house, woods)
            for _ in range(2):
                book = book_of_blaze(chance, house, woods)
                there = blazes_of_book(blazes, book)
                seen[bool(there)] += 1
                self.check(house, woods, book, there)
        self.assertTrue(min(seen.values()) > 30)

    def check(self, house, woods, book, there):
        blaze, pair = blaze_of(house, woods, book), late_pair(house, woods, book)
        self.assertTrue((blaze is None) != (pair is None))
        self.assertEqual(blaze is not None, bool(there))
        if blaze is not None:
            self.assertIn(blaze, there)
            self.assertEqual(list(blaze), house.rooms())
        late = [(one, other) for one in book for other in book
                if book[other] > book[one] + sum(woods[room] for room in path(house, one, other)[:-1])]
        self.assertEqual(pair, min(late, default=None))
        for room in house.rooms():
            hours = {blaze[room] for blaze in there}
            told = blaze_hours(house, woods, book, room)
            self.assertEqual(told, (min(hours), max(hours)) if hours else None)
            self.assertTrue(not hours or len(hours) == told[1] - told[0] + 1)

    def test_empty_book(self):
        self.assertIs(is_blaze(H, W, blaze_of(H, W, {})), True)
        self.assertIsNone(late_pair(H, W, {}))
        self.assertIsNone(blaze_hours(H, W, {}, "a"))

    def test_sixty_rooms(self):
        for number, house in enumerate(great_houses()):
            chance = random.Random(number)
            woods = random_woods(chance, house, 999999999)
            book = {room: chance.randint(-999999999, 999999999) for room in chance.sample(house.rooms(), 5)}
            blaze, pair = blaze_of(house, woods, book), late_pair(house, woods, book)
            self.assertTrue((blaze is None) != (pair is None))
            whole = {room: chance.randint(0, 9) for room in house.rooms()}
            woods = {room: woods[room] + 9 for room in woods}
            blaze = blaze_of(house, woods, whole)
            self.assertEqual(blaze, whole)
            some = {room: whole[room] for room in chance.sample(house.rooms(), 20)}
            self.assertIs(is_blaze(house, woods, blaze_of(house, woods, some)), True)
            for room in house.rooms()[:5]:
                least, most = blaze_hours(house, woods, some, room)
                for hour in (least, most):
                    self.assertIsNone(late_pair(house, woods, dict(some, **{room: hour})))
                if room not in some:
                    for hour in (least - 1, most + 1):
                        self.assertIsNotNone(late_pair(house, woods, dict(some, **{room: hour})))

    def test_errors(self):
        rows = [(1, BadWoods, WOODS), (2, BadBook, BOOKS)]
        for call in (blaze_of, late_pair):
            check_errors(self, call, (H, W, {"a": 0}), rows)
        check_errors(self, blaze_hours, (H, W, {"a": 0}, "b"), rows + [(3, NoRoom, ROOMS)])

    def test_example(self):
        """[82]"""
        self.assertEqual(late_pair(H, W, {"a": 0, "c": 6}), ("a", "c"))
        self.assertIsNone(blaze_of(H, W, {"a": 0, "c": 6}))
        self.assertEqual(blaze_hours(H, W, {"a": 0, "c": 5}, "d"), (1, 5))

    def test_in_turns(self):
        book, other = {"a": 0, "c": 5}, {"b": 3}
        in_turns(self, [lambda: blaze_of(H, W, book), lambda: blaze_of(H, W, other), lambda: blaze_hours(H, W, book, "d"),
                        lambda: blaze_of(H, turned_dict(W), turned_dict(book)), lambda: blaze_of(H, dict(W, b=9), book),
                        lambda: fire_meetings(H, W, {"a": 0, "b": 0, "c": 0, "d": 0}), lambda: made_rooms(H, W, F)])
        told, woods = {"a": 0, "c": 5}, dict(W)
        self.assertIsNone(late_pair(H, woods, told))
        told["c"] = 6
        self.assertEqual(late_pair(H, woods, told), ("a", "c"))
        woods["a"] = 3
        self.assertIsNone(late_pair(H, woods, told))


if __name__ == "__main__":
    unittest.main()
