import unittest

from hearths.errors import BadBook, BadWoods, NoRoom
from hearths.firsthours import (begun_first, begun_hours, begun_last, could_be, earliest_hours, latest_hours,
                                sure_hours, telling_hours)
from hearths.firstrooms import hours_from
from hearths.houses import House
from tests.brute import all_fitting, great_houses, random_book, sample_of_objects, small_cases, stretches_of
from tests.test_fires import BAD_WOODS, H, W
from tests.test_ways import raised

BOOK = {"c": 7, "d": 9}
OF_BOOK = (earliest_hours, latest_hours, sure_hours, begun_hours, begun_first, begun_last)
OF_ROOM = (could_be, telling_hours)


class Hours(unittest.TestCase):
    """[29], [30], [31]"""

    def test_small_houses(self):
        for chance, house, woods in small_cases(70, 200, 6):
            self.check(house, woods, random_book(chance, house, woods))

    def check(self, house, woods, book):
        fires = all_fitting(house, woods, book)
        hours = {room: {fire[room] for _, fire in fires} for room in house.rooms()}
        for room in house.rooms():
            self.assertEqual(could_be(house, woods, book, room), stretches_of(hours[room]))
            firsts = {hour: {first for first, fire in fires if fire[room] == hour} for hour in hours[room]}
            telling = [hour for hour in firsts if len(firsts[hour]) == 1]
            self.assertEqual(telling_hours(house, woods, book, room), stretches_of(telling))
        begun = {fire[first] for first, fire in fires}
        self.assertEqual(begun_hours(house, woods, book), stretches_of(begun))
        if not fires:
            for call in (earliest_hours, latest_hours, sure_hours, begun_first, begun_last):
                self.assertIsNone(call(house, woods, book))
            return
        for call, told in ((earliest_hours, {room: min(hours[room]) for room in hours}),
                           (latest_hours, {room: max(hours[room]) for room in hours}),
                           (sure_hours, {room: min(hours[room]) for room in hours if len(hours[room]) == 1})):
            self.assertEqual(list(call(house, woods, book).items()), list(told.items()))
        for call, hour in ((begun_first, min(begun)), (begun_last, max(begun))):
            rooms = sorted({first for first, fire in fires if fire[first] == hour})
            self.assertEqual(call(house, woods, book), (hour, rooms))

    def test_just_one_hour_lacks(self):
        for chance, house, woods in small_cases(71, 80, 5):
            book = random_book(chance, house, woods, 0)
            for room in house.rooms():
                told = could_be(house, woods, book, room)
                for ahead, behind in zip(told, told[1:]):
                    self.assertEqual(behind[0] - ahead[1], 2)
                own = hours_from(house, woods, book, room, room)
                self.assertTrue(own is None or own[0] == told[0][0])

    def test_stretches_of_different_first_rooms_are_joined(self):
        house = House(["a", "b", "c"], [("a", "b"), ("b", "c")])
        self.check(house, {"a": 3, "b": 2, "c": 3}, {"b": 0})
        self.assertEqual(could_be(house, {"a": 3, "b": 2, "c": 3}, {"b": 0}, "a"), [(-3, -1), (1, 2)])

    def test_empty_book(self):
        for house in (H, House(["a"], [])):
            woods = {room: W[room] for room in house.rooms()}
            for room in house.rooms():
                self.assertEqual(could_be(house, woods, {}, room), [(None, None)])
                self.assertEqual(telling_hours(house, woods, {}, room), [(None, None)] if len(house) == 1 else [])
            self.assertIsNone(earliest_hours(house, woods, {}))
            self.assertIsNone(latest_hours(house, woods, {}))
            self.assertEqual(sure_hours(house, woods, {}), {})
            self.assertEqual(begun_hours(house, woods, {}), [(None, None)])
            self.assertIsNone(begun_first(house, woods, {}))
            self.assertIsNone(begun_last(house, woods, {}))

    def test_one_room(self):
        house, woods, book = House(["a"], []), {"a": 2}, {"a": -4}
        self.check(house, woods, book)
        self.assertEqual(telling_hours(house, woods, book, "a"), [(-4, -4)])
        self.assertEqual(begun_last(house, woods, book), (-4, ["a"]))

    def test_no_fire_fits(self):
        book = {"a": 0, "b": 99}
        self.assertEqual(could_be(H, W, book, "c"), [])
        self.assertEqual(telling_hours(H, W, book, "c"), [])
        self.assertEqual(begun_hours(H, W, book), [])
        self.assertIsNone(sure_hours(H, W, book))

    def test_example(self):
        self.assertEqual(could_be(H, W, BOOK, "b"), [(6, 6), (8, 8)])
        self.assertEqual(could_be(H, W, BOOK, "a"), [(4, 5), (7, 11)])
        self.assertEqual(telling_hours(H, W, BOOK, "a"), [(4, 5), (7, 8), (10, 11)])
        self.assertEqual(sure_hours(H, W, BOOK), {"c": 7, "d": 9})
        self.assertEqual(begun_hours(H, W, BOOK), [(4, 7)])
        self.assertEqual(begun_last(H, W, BOOK), (7, ["c"]))

    def test_errors(self):
        bad_books = [thing for thing in sample_of_objects(H) if thing != {}] + [{"a": True}, {"a": 1, "e": 2}]
        for call in OF_BOOK + OF_ROOM:
            more = (None,) if call in OF_ROOM else ()
            for thing in BAD_WOODS + sample_of_objects(H):
                self.assertIs(raised(self, BadWoods, call, H, thing, None, *more).thing, thing)
            for thing in bad_books:
                self.assertIs(raised(self, BadBook, call, H, W, thing, *more).thing, thing)
        for call in OF_ROOM:
            for book in ({}, BOOK, {"a": 0, "b": 99}):
                for thing in sample_of_objects(H):
                    self.assertIs(raised(self, NoRoom, call, H, W, book, thing).thing, thing)

    def test_told_new(self):
        for call in OF_BOOK:
            told = call(H, W, BOOK)
            same = call(H, W, BOOK)
            (told[1] if isinstance(told, tuple) else told).clear()
            self.assertEqual(call(H, W, BOOK), same)
        for call in OF_ROOM:
            for book in (BOOK, {}):
                call(H, W, book, "a").append(5)
                self.assertNotIn(5, call(H, W, book, "a"))

    def test_asked_in_turns(self):
        book, woods, other_woods = dict(BOOK), dict(W), dict(W, b=1)
        for _ in range(2):
            self.assertEqual(could_be(H, woods, book, "b"), [(6, 6), (8, 8)])
            self.assertEqual(could_be(H, other_woods, book, "b"), [(8, 8)])
            self.assertEqual(could_be(H, woods, {"a": 0}, "b"), [(-3, -1), (1, 2)])
        book["d"] = 7
        self.assertEqual(could_be(H, woods, book, "b"), [(4, 6)])
        woods["b"] = 1
        self.assertEqual(could_be(H, woods, book, "b"), [(6, 6)])
        self.assertEqual(sure_hours(H, woods, book), {"b": 6, "c": 7, "d": 7})

    def test_sixty_rooms(self):
        for house in great_houses():
            woods = {room: 999999999 - at for at, room in enumerate(house.rooms())}
            book = {house.rooms()[3]: -999999999, house.rooms()[40]: -999999950}
            for room in house.rooms()[::12]:
                told = could_be(house, woods, book, room)
                self.assertEqual(told[0][0], earliest_hours(house, woods, book)[room])
                self.assertEqual(told[-1][1], latest_hours(house, woods, book)[room])
                self.assertIsInstance(telling_hours(house, woods, book, room), list)
            self.assertEqual(begun_hours(house, woods, book)[0][0], begun_first(house, woods, book)[0])
            self.assertEqual(begun_hours(house, woods, book)[-1][1], begun_last(house, woods, book)[0])


if __name__ == "__main__":
    unittest.main()
