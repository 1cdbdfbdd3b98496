import itertools
import random
import unittest

from hearths.books import fits
from hearths.errors import BadBook, BadFire, BadOpens, BadWoods, NoDoor, NoRoom
from hearths.fires import first_of, is_fire
from hearths.houses import House
from hearths.opendoors import open_fire, open_paper, walled, why_two
from tests.brute import (all_fires, all_fitting, great_houses, moved, outward, path, random_book, random_woods,
                         small_cases, ways_on)
from tests.test_fires import F, H, W
from tests.test_fittings import fire_of
from tests.test_twohours import H6, W6
from tests.test_ways import raised
from tests.wrong import ALL, BOOKS, FIRES, ROOMS, WOODS, check_errors, in_turns, one_room, turned_dict, with_lists

O = {("b", "d"): (4, 6)}
BAD_OPENS = [thing for thing in ALL if thing != {}] + [
    {("d", "b"): (4, 6)}, {("a", "c"): (4, 6)}, {("b", "d"): (6, 4)}, {("b", "d"): (4,)}, {("b", "d"): (4, 5, 6)},
    {("b", "d"): (True, 6)}, {("b", "d"): (4, True)}, {("b", "d"): (4, None)}, {("b", "d"): (None, None)},
    {("b", "d"): 4}, {("b", "d"): [4, "6"]}, {"bd": (4, 6)}, {("b", "x"): (4, 6)}, {None: (4, 6)}, {("b", "b"): (0, 1)}]


def goes_through(house, first, fire, opens):
    """Whether a fire goes through doors as they are open."""
    for room, came in outward(house, first)[1:]:
        least, most = opens.get((min(room, came), max(room, came)), (fire[room], fire[room]))
        if not least <= fire[room] <= most:
            return False
    return True


def random_opens(chance, house, woods):
    first, fire = chance.choice(all_fires(house, woods))
    came = dict(outward(house, first))
    opens = {}
    for one, other in house.doors():
        if chance.random() < 0.5:
            hour = fire[other if came[other] == one else one] + chance.choice([0, 0, 0, -2, 2])
            opens[(one, other)] = (hour - chance.choice([0, 0, 1]), hour + chance.choice([0, 0, 1]))
    return opens


class OpenDoors(unittest.TestCase):
    """[71]"""

    def test_small_houses(self):
        long = {}
        for chance, house, woods in small_cases(220, 350, 5, 3):
            opens, book = random_opens(chance, house, woods), random_book(chance, house, woods, 0.1)
            if chance.random() < 0.5:
                book = {room: book[room] for room in list(book)[:2]}
            paper = self.check(house, woods, opens, book)
            kind = paper and (len(paper), len({telling[0] for telling in paper}))
            long[kind] = long.get(kind, 0) + 1
        self.assertTrue(all(long.get(kind) for kind in (None, (2, 1), (2, 2), (3, 2))))

    def check(self, house, woods, opens, book):
        fire, paper = open_fire(house, woods, opens, book), open_paper(house, woods, opens, book)
        self.assertTrue((fire is None) != (paper is None))
        if fire is not None:
            self.assertTrue(is_fire(house, woods, fire) and fits(house, woods, book, fire))
            self.assertEqual(list(fire), house.rooms())
            self.assertTrue(goes_through(house, first_of(house, woods, fire), fire, opens))
        self.assertEqual(paper, self.first_paper(house, woods, opens, book))
        self.assertTrue(paper is None or 2 <= len(paper) <= 4)
        self.assertEqual(open_paper(house, turned_dict(woods), turned_dict(with_lists(opens)), turned_dict(book)),
                         paper)
        return paper

    def first_paper(self, house, woods, opens, book):
        """Of all fires, at all hours that can matter, by all lists of tellings."""
        tellings = sorted([("room", room) for room in book] + [("door",) + door for door in opens])
        hours = list(book.values()) + [hour for span in opens.values() for hour in span]
        if not hours:
            return None
        told = set()
        for first, fire in all_fires(house, woods):
            came = dict(outward(house, first))
            begins = {hour - fire[room] for hour in range(min(hours), max(hours) + 1) for room in fire}
            for begin in begins:
                there = moved(fire, begin)
                told.add(frozenset(telling for telling in tellings if self.keeps(came, there, opens, book, telling)))
        for many in range(1, len(tellings) + 1):
            for some in itertools.combinations(tellings, many):
                if not any(set(some) <= kept for kept in told):
                    return list(some)
        return None

    def keeps(self, came, fire, opens, book, telling):
        if telling[0] == "room":
            return fire[telling[1]] == book[telling[1]]
        _, one, other = telling
        least, most = opens[(one, other)]
        return least <= fire[other if came[other] == one else one] <= most

    def test_four_tellings(self):
        book = {"a": 0, "b": 3, "c": 2, "d": 0}
        self.assertEqual(open_paper(H6, W6, {}, book), [("room", room) for room in "abcd"])
        for opens in ({("x", "y"): (1, 1)}, {("d", "y"): (0, 1)}, {("c", "y"): (2, 4)}):
            self.check(H6, W6, opens, book)
        del book["b"]
        self.assertEqual(self.check(H6, W6, {("b", "x"): (3, 5)}, book),
                         [("door", "b", "x"), ("room", "a"), ("room", "c"), ("room", "d")])

    def test_nothing_told(self):
        self.assertTrue(is_fire(H, W, open_fire(H, W, {}, {})))
        self.assertIsNone(open_paper(H, W, {}, {}))
        fire = open_fire(H, W, O, {})
        self.assertTrue(goes_through(H, first_of(H, W, fire), fire, O))
        self.assertIsNone(open_paper(H, W, O, {}))
        self.assertEqual(open_fire(one_room(), {"a": 1}, {}, {"a": 3}), {"a": 3})

    def test_twenty_rooms(self):
        papers = 0
        for number, house in enumerate(great_houses(20)):
            for most in (3, 999999999):
                chance = random.Random(number)
                woods = random_woods(chance, house, most)
                fire = fire_of(chance, house, woods)
                first = min(fire, key=lambda room: fire[room])
                came = dict(outward(house, first))
                book = {room: fire[room] for room in chance.sample(house.rooms(), 8)}
                opens = {}
                for one, other in house.doors():
                    hour = fire[other if came[other] == one else one]
                    opens[(one, other)] = (hour - 1, hour + 1)
                self.assertIsNone(open_paper(house, woods, opens, book))
                told = open_fire(house, woods, opens, book)
                self.assertTrue(fits(house, woods, book, told))
                self.assertTrue(goes_through(house, first_of(house, woods, told), told, opens))
                door = chance.choice(house.doors())
                opens[door] = (opens[door][0] - 3, opens[door][0] - 2)
                paper = open_paper(house, woods, opens, book)
                self.assertTrue((paper is None) != (open_fire(house, woods, opens, book) is None))
                papers += paper is not None
                if paper:
                    self.assertIn(("door",) + door, paper)
        self.assertGreater(papers, 5)

    def test_errors(self):
        for call in (open_fire, open_paper):
            check_errors(self, call, (H, W, O, {"a": 1}), [(1, BadWoods, WOODS), (2, BadOpens, BAD_OPENS),
                                                           (3, BadBook, BOOKS)])

    def test_example(self):
        """[74]"""
        self.assertIsNone(open_paper(H, W, O, {"a": 1}))
        self.assertEqual(open_paper(H, W, O, {"b": 7}), [("door", "b", "d"), ("room", "b")])
        self.assertEqual(open_paper(H, W, O, {"a": 1, "b": 7}), [("door", "b", "d"), ("room", "b")])

    def test_in_turns(self):
        other, book = {("a", "b"): (0, 2)}, {"a": 1}
        in_turns(self, [lambda: open_fire(H, W, O, book), lambda: open_fire(H, W, other, book),
                        lambda: open_fire(H, turned_dict(W), with_lists(O), book),
                        lambda: open_paper(H, W, O, {"b": 7}), lambda: open_fire(H, dict(W, b=9), O, {"b": 2})])
        opens, told, woods = {("b", "d"): [4, 6]}, {"b": 7}, dict(W)
        self.assertIsNone(open_fire(H, woods, opens, told))
        opens[("b", "d")][1] = 7
        self.assertIsNotNone(open_fire(H, woods, opens, told))
        told["b"] = 0
        self.assertIsNone(open_fire(H, woods, opens, told))
        woods["b"] = 4
        self.assertIsNotNone(open_fire(H, woods, opens, told))


class Walled(unittest.TestCase):
    """[72]"""

    def test_walled(self):
        for _, house, _ in small_cases(221, 40, 8):
            for one, other in house.doors():
                for near, far in ((one, other), (other, one)):
                    parts = walled(house, near, far)
                    self.assertIsInstance(parts, tuple)
                    for part, room, bare in ((parts[0], near, far), (parts[1], far, near)):
                        rooms = [here for here in house.rooms() if bare not in path(house, room, here)]
                        self.assertEqual(part.rooms(), rooms)
                        doors = [door for door in house.doors() if set(door) <= set(rooms)]
                        self.assertEqual(part, House(rooms, doors))

    def test_why_two(self):
        seen = {None: 0, "first": 0, "hours": 0}
        for chance, house, woods in small_cases(222, 150, 5, 2):
            if len(house) == 1:
                continue
            door = chance.choice(house.doors())
            one, other = door if chance.random() < 0.5 else door[::-1]
            near, far = walled(house, one, other)
            fires = all_fires(near, {room: woods[room] for room in near.rooms()})
            others = all_fires(far, {room: woods[room] for room in far.rooms()})
            for (first, fire), (second, there) in itertools.product(fires[:9], others[:9]):
                for hours in range(-4, 5):
                    behind = moved(there, hours)
                    whole = dict(fire, **behind)
                    gap = behind[other] - fire[one]
                    holds = (second == other and 1 <= gap <= woods[one]) or (
                        first == one and 1 <= -gap <= woods[other])
                    told = why_two(house, woods, one, other, fire, behind)
                    seen[told] += 1
                    self.assertEqual(told is None, holds)
                    self.assertEqual(told is None, is_fire(house, woods, whole))
                    if told is not None:
                        self.assertEqual(told, "first" if first != one and second != other else "hours")
        self.assertTrue(min(seen.values()) > 50)

    def test_errors(self):
        walls = [(1, NoRoom, ROOMS), (2, NoRoom, ROOMS)]
        check_errors(self, walled, (H, "b", "d"), walls)
        fire, far = {"a": 4, "b": 6, "c": 7}, {"d": 9}
        bad = [thing for thing in FIRES if thing != fire] + [{"a": 4, "b": 7, "c": 8}, dict(fire, d=9)]
        bad_far = [thing for thing in ALL] + [{"d": True}, {"d": None}, {"a": 1}, fire, F]
        check_errors(self, why_two, (H, W, "b", "d", fire, far),
                     [(1, BadWoods, WOODS), (2, NoRoom, ROOMS), (3, NoRoom, ROOMS), (4, BadFire, bad),
                      (5, BadFire, bad_far)])
        for one, other in (("a", "d"), ("a", "a"), ("d", "c")):
            for call in (lambda: walled(H, one, other), lambda: why_two(H, W, one, other, None, None)):
                error = raised(self, NoDoor, call)
                self.assertEqual((error.one, error.other), (one, other))
        self.assertEqual(why_two(H, W, "b", "d", fire, far), None)
        self.assertEqual(ways_on(walled(H, "d", "b")[1], "b"), ["a", "c"])

    def test_sixty_rooms(self):
        for number, house in enumerate(great_houses()):
            chance = random.Random(number)
            woods = random_woods(chance, house, 999999999)
            fire = fire_of(chance, house, woods)
            first = min(fire, key=lambda room: fire[room])
            for room, came in outward(house, first)[1:10]:
                near, far = walled(house, came, room)
                parts = [{here: fire[here] for here in part.rooms()} for part in (near, far)]
                self.assertIsNone(why_two(house, woods, came, room, *parts))
                parts[1] = moved(parts[1], woods[came])
                self.assertEqual(why_two(house, woods, came, room, *parts), "hours")


if __name__ == "__main__":
    unittest.main()
