import random
import unittest

from hearths.books import fits
from hearths.branches import (Branch, comes_in, cut_off, goes_out, hung, inner_fire, outer_fire, rim_hours, span_from)
from hearths.errors import (BadBook, BadBranch, BadHour, BadPairs, BadWood, BadWoods, CommonRoom, NoDoor, NoRoom)
from hearths.fires import is_fire
from hearths.houses import House
from hearths.otherhouses import joined_by, renamed
from hearths.ways import behind
from tests.brute import (all_fitting, fires_from, great_houses, house_of, moved, random_book, random_house,
                         random_woods, small_cases, stretches_of, ways_on)
from tests.test_fires import H, W
from tests.test_fittings import fire_of
from tests.test_ways import raised
from tests.wrong import (ALL, BOOKS, FROM_ONE, INTEGERS, NO_LISTS, ROOMS, WOODS, check_errors, in_turns, one_room,
                         turned_dict)

RS = house_of("rs")
B = Branch(RS, "r", {"r": 1, "s": 1}, {"s": 5})
NO_BRANCHES = ALL + [RS, Branch, {"r": 1}, ("r", "s")]


def random_branch(chance, most_rooms=4, most_wood=3, change=0.15, names="abcdefgh"):
    """A branch of few rooms, most of them such that something can come in or begin within."""
    plain = random_house(chance, chance.randint(1, most_rooms))
    house = renamed(plain, dict(zip(plain.rooms(), chance.sample(names, len(plain)))))
    woods = random_woods(chance, house, most_wood)
    book = random_book(chance, house, woods, change)
    book = {room: book[room] for room in book if chance.random() < 0.8}
    return Branch(house, chance.choice(house.rooms()), woods, book)


def parts(branch):
    return branch.house(), branch.rim(), branch.woods(), branch.book()


def all_in(branch):
    """All ways to light the rooms by fire from around that have what is noted: of a book that is not empty."""
    house, rim, woods, book = parts(branch)
    noted = next(iter(book))
    there = [moved(fire, book[noted] - fire[noted]) for fire in fires_from(house, woods, rim)]
    return [fire for fire in there if all(fire[room] == hour for room, hour in book.items())]


class Branches(unittest.TestCase):
    """[83]"""

    def test_what_was_passed(self):
        woods, book = {"s": 2, "r": 1}, {"s": 5}
        branch = Branch(RS, "s", woods, book)
        woods["r"], book["r"] = 7, 0
        for _ in range(2):
            self.assertEqual(parts(branch), (RS, "s", {"r": 1, "s": 2}, {"s": 5}))
            self.assertEqual(list(branch.woods()), ["r", "s"])
            branch.woods().clear()
            branch.book()["r"] = 3
        full = Branch(RS, "r", W_RS, {"s": 2, "r": 1})
        self.assertEqual(list(full.book()), ["r", "s"])

    def test_equal(self):
        same = Branch(House(["s", "r"], [("s", "r")]), "r", {"s": 1, "r": 1}, {"s": 5})
        self.assertTrue(B == same and not B != same)
        others = [Branch(RS, "s", {"r": 1, "s": 1}, {"s": 5}), Branch(RS, "r", {"r": 1, "s": 2}, {"s": 5}),
                  Branch(RS, "r", {"r": 1, "s": 1}, {"s": 4}), Branch(RS, "r", {"r": 1, "s": 1}, {}),
                  Branch(house_of("rt"), "r", {"r": 1, "t": 1}, {"t": 5})]
        for other in others + ALL + [RS, parts(B), "B"]:
            self.assertFalse(B == other)
            self.assertTrue(B != other)
        one, other = (Branch(house_of(doors), "a", {"a": 1, "b": 1, "c": 1}, {}) for doors in ("ab bc", "ab ac"))
        self.assertTrue(one != other and not one == other)

    def test_errors(self):
        check_errors(self, Branch, (H, "a", W, {"b": 1}), [(1, NoRoom, ROOMS), (2, BadWoods, WOODS),
                                                           (3, BadBook, BOOKS)])
        for call in (comes_in, rim_hours, goes_out):
            check_errors(self, call, (B,), [(0, BadBranch, NO_BRANCHES)])
        for call in (inner_fire, outer_fire):
            check_errors(self, call, (B, 4), [(0, BadBranch, NO_BRANCHES), (1, BadHour, INTEGERS)])
        far = Branch(one_room(), "a", {"a": 1}, {})
        rooms = [thing for thing in ROOMS] + ["a"]
        check_errors(self, hung, (B, "s", far), [(0, BadBranch, NO_BRANCHES), (1, NoRoom, rooms),
                                                 (2, BadBranch, NO_BRANCHES)])
        self.assertEqual(raised(self, CommonRoom, hung, B, "s", B).name, "r")
        self.assertEqual(raised(self, CommonRoom, hung, B, "r", Branch(house_of("sx"), "x", {"s": 1, "x": 1}, {})).name,
                         "s")
        check_errors(self, cut_off, (H, W, {"a": 1}, "b", "d"),
                     [(1, BadWoods, WOODS), (2, BadBook, BOOKS), (3, NoRoom, ROOMS), (4, NoRoom, ROOMS)])
        for one, other in (("a", "c"), ("a", "a")):
            error = raised(self, NoDoor, cut_off, H, W, {}, one, other)
            self.assertEqual((error.one, error.other), (one, other))


W_RS = {"r": 1, "s": 1}


class InAndOut(unittest.TestCase):
    """[84], [85]"""

    def test_small_branches(self):
        seen = {"in": 0, "none in": 0, "none": 0, "gaps": 0}
        for chance, _, _ in small_cases(270, 400):
            branch = random_branch(chance, 5, 2)
            house, rim, woods, book = parts(branch)
            if not book:
                self.check_empty(branch)
                continue
            into = {fire[rim] for fire in all_in(branch)}
            self.assertEqual(comes_in(branch), (min(into), max(into)) if into else None)
            self.assertTrue(not into or len(into) == max(into) - min(into) + 1)
            within = {fire[rim] for _, fire in all_fitting(house, woods, book)}
            self.assertEqual(rim_hours(branch), stretches_of(within))
            out = {hour + step for hour in within for step in range(1, woods[rim] + 1)}
            self.assertEqual(goes_out(branch), stretches_of(out))
            if into:
                self.assertTrue(min(within) == min(into) and into <= within)
                self.assertTrue(set(range(min(into) + 1, max(into) + woods[rim] + 1)) <= out)
            self.assertTrue(len(goes_out(branch)) <= 1 or woods[rim] == 1)
            self.assertTrue(all(one[1] + 2 == other[0] for one, other in zip(goes_out(branch), goes_out(branch)[1:])))
            self.check_fires(branch, out)
            seen["in"] += bool(into)
            seen["none in"] += bool(within) and not into
            seen["none"] += not within
            seen["gaps"] += len(goes_out(branch)) > 1
        self.assertTrue(min(seen.values()) > 20)

    def check_fires(self, branch, out):
        house, rim, woods, book = parts(branch)
        hours = [hour for hour in book.values()] + sorted(out)
        fires = all_in(branch)
        for hour in range(min(hours) - 3, max(hours) + 4):
            there = [fire for fire in fires if fire[rim] == hour]
            told = inner_fire(branch, hour)
            self.assertEqual(told, {room: min(fire[room] for fire in there) for room in house.rooms()} if there
                             else None)
            self.assertTrue(told is None or list(told) == house.rooms())
            fire = outer_fire(branch, hour)
            self.assertEqual(fire is not None, hour in out)
            if fire is not None:
                self.judge_outer(branch, fire, hour)

    def judge_outer(self, branch, fire, hour):
        house, rim, woods, book = parts(branch)
        self.assertTrue(is_fire(house, woods, fire) and fits(house, woods, book, fire))
        self.assertEqual(list(fire), house.rooms())
        self.assertTrue(1 <= hour - fire[rim] <= woods[rim])

    def check_empty(self, branch):
        self.assertEqual(comes_in(branch), (None, None))
        self.assertEqual(rim_hours(branch), [(None, None)])
        self.assertEqual(goes_out(branch), [(None, None)])
        for hour in (-7, 0, 12):
            fire = inner_fire(branch, hour)
            self.assertTrue(is_fire(branch.house(), branch.woods(), fire))
            self.assertEqual(fire[branch.rim()], hour)
            self.assertEqual(max(fire.values()) - hour, max(len(way) - 1 for way in self.ways(branch)))
            self.judge_outer(branch, outer_fire(branch, hour), hour)

    def ways(self, branch):
        from tests.brute import path
        return [path(branch.house(), branch.rim(), room) for room in branch.house().rooms()]

    def test_empty_books(self):
        for chance, house, woods in small_cases(271, 30, 6):
            self.check_empty(Branch(house, chance.choice(house.rooms()), woods, {}))

    def test_noted_rim(self):
        branch = Branch(RS, "r", {"r": 3, "s": 1}, {"r": 4})
        self.assertEqual((comes_in(branch), rim_hours(branch), goes_out(branch)), ((4, 4), [(4, 4)], [(5, 7)]))
        self.assertIsNone(inner_fire(branch, 5))
        self.assertEqual(inner_fire(branch, 4), {"r": 4, "s": 5})
        for hour in range(3, 10):
            self.assertEqual(outer_fire(branch, hour) is not None, 5 <= hour <= 7)

    def test_thirty_rooms(self):
        for number, house in enumerate(great_houses(30)):
            chance = random.Random(number)
            woods = random_woods(chance, house, 999999999 if number % 2 else 5)
            fire = fire_of(chance, house, woods)
            first = min(fire, key=lambda room: fire[room])
            book = {room: fire[room] for room in chance.sample(house.rooms(), 9)}
            for rim in (first, house.rooms()[0], house.rooms()[-1]):
                branch = Branch(house, rim, woods, book)
                span, out = comes_in(branch), goes_out(branch)
                self.assertTrue(rim != first or span[0] <= fire[rim] <= span[1])
                self.judge_outer(branch, outer_fire(branch, out[0][0]), out[0][0])
                self.judge_outer(branch, outer_fire(branch, out[-1][1]), out[-1][1])
                self.assertIsNone(outer_fire(branch, out[0][0] - 1))
                self.assertIsNone(outer_fire(branch, out[-1][1] + 1))
                if span:
                    for hour in range(span[0], span[1] + 1, max(1, span[1] - span[0])):
                        self.assertTrue(fits(house, woods, book, inner_fire(branch, hour)))
                    self.assertIsNone(inner_fire(branch, span[1] + 1))

    def test_example(self):
        """[91]"""
        self.assertEqual((comes_in(B), rim_hours(B), goes_out(B)), ((4, 4), [(4, 4), (6, 6)], [(5, 5), (7, 7)]))
        more = Branch(RS, "r", {"r": 2, "s": 1}, {"s": 5})
        self.assertEqual((comes_in(more), rim_hours(more), goes_out(more)), ((3, 4), [(3, 4), (6, 6)], [(4, 8)]))
        self.assertEqual(span_from(None, 2, [(5, 5)]), (3, 4))
        self.assertEqual(inner_fire(more, 3), {"r": 3, "s": 5})

    def test_in_turns(self):
        more = Branch(RS, "r", {"r": 2, "s": 1}, {"s": 5})
        in_turns(self, [lambda: inner_fire(more, 3), lambda: inner_fire(B, 4), lambda: outer_fire(more, 8),
                        lambda: goes_out(B), lambda: goes_out(more), lambda: comes_in(Branch(RS, "s", W_RS, {"s": 5})),
                        lambda: outer_fire(Branch(RS, "r", {"s": 1, "r": 2}, {"s": 5}), 8)])
        woods, book = dict(W_RS), {"s": 5}
        one = Branch(RS, "r", woods, book)
        woods["r"], book["s"] = 2, 6
        self.assertEqual((comes_in(one), comes_in(Branch(RS, "r", woods, book))), ((4, 4), (4, 5)))


class PutTogether(unittest.TestCase):
    """[86], [87]"""

    def test_hung_and_cut_off(self):
        for chance, _, _ in small_cases(272, 120):
            one, other = random_branch(chance, 4, 3, 0.1, "abcd"), random_branch(chance, 4, 3, 0.1, "efgh")
            room = chance.choice(one.house().rooms())
            whole = hung(one, room, other)
            self.assertEqual(whole.house(), joined_by(one.house(), other.house(), room, other.rim()))
            self.assertEqual(whole.rim(), one.rim())
            self.assertEqual(whole.woods(), dict(one.woods(), **other.woods()))
            self.assertEqual(whole.book(), dict(one.book(), **other.book()))
            house, rim, woods, book = parts(whole)
            self.assertEqual(cut_off(house, woods, book, room, other.rim()), other)
            back = cut_off(house, woods, turned_dict(book), other.rim(), room)
            self.assertEqual(back, Branch(one.house(), room, one.woods(), one.book()))

    def test_cut_off(self):
        for chance, house, woods in small_cases(273, 40, 7):
            book = {room: chance.randint(-5, 5) for room in house.rooms() if chance.random() < 0.5}
            for room in house.rooms():
                for other in ways_on(house, room):
                    branch = cut_off(house, woods, book, room, other)
                    rooms = behind(house, room, other)
                    self.assertEqual((branch.house().rooms(), branch.rim()), (rooms, other))
                    self.assertEqual(branch.woods(), {far: woods[far] for far in rooms})
                    self.assertEqual(branch.book(), {far: book[far] for far in rooms if far in book})

    def test_span_from(self):
        told = {"none": 0, "all": 0, "some": 0}
        for chance, _, _ in small_cases(274, 300):
            wood, hour = chance.randint(1, 3), chance.choice([None, None, chance.randint(-4, 4)])
            branch = Branch(house_of("", "r"), "r", {"r": wood}, {} if hour is None else {"r": hour})
            spans = []
            for names in ("abcd", "efgh")[:chance.randint(0, 2)]:
                far = random_branch(chance, 3, 3, 0, names)
                if comes_in(far) is not None:
                    branch = hung(branch, "r", far)
                    spans.append(comes_in(far))
            span = span_from(hour, wood, spans)
            self.assertEqual(span, comes_in(branch))
            self.assertEqual(span_from(hour, wood, tuple(list(pair) for pair in spans)), span)
            told["none" if span is None else "all" if span[0] is None else "some"] += 1
        self.assertTrue(min(told.values()) > 15)

    def test_span_from_alone(self):
        self.assertEqual(span_from(None, 1, []), (None, None))
        self.assertEqual(span_from(None, 3, [(None, None), (None, None)]), (None, None))
        self.assertEqual(span_from(4, 3, [(None, None)]), (4, 4))
        self.assertEqual(span_from(None, 3, [(1, 5), (None, None), (3, 9)]), (0, 4))
        self.assertEqual(span_from(None, 3, [(1, 2), (9, 9)]), None)
        self.assertEqual(span_from(5, 3, [(1, 5)]), None)
        self.assertEqual(span_from(4, 999999999, [(4, 5)]), (4, 4))
        self.assertEqual(span_from(None, 999999999, [(4, 5)]), (-999999995, 4))

    def test_span_from_errors(self):
        pairs = NO_LISTS + [([(1, 2), thing], 1) for thing in ALL] + [
            ([(2, 1)], 0), ([(1, 2), (None, None), (None, 1)], 2), ([(1, None)], 0), ([(1, 2, 3)], 0),
            ([(True, 2)], 0), ([(1, True)], 0), ([(1, 2), None], 1), ([(1,)], 0), ([(0, 0), ("1", 2)], 1)]
        check_errors(self, span_from, (4, 2, [(1, 5)]),
                     [(0, BadHour, [thing for thing in INTEGERS if thing is not None]), (1, BadWood, FROM_ONE),
                      (2, BadPairs, pairs)])


if __name__ == "__main__":
    unittest.main()
