import itertools
import random
import unittest
from fractions import Fraction

from hearths.builtfires import is_paper, paper_for
from hearths.errors import BadBook, BadWoods, NoDoor, NoneFits, NoRoom, NothingTold
from hearths.given import ahead_given, door_given, first_given, gap_given, hour_given, mean_given
from tests.brute import all_fitting, great_houses, path, random_book, random_woods, row_house, small_cases, ways_on
from tests.test_firechances import add_up, chances_by, pair
from tests.test_fires import H, W
from tests.test_fittings import fire_of
from tests.test_ways import raised
from tests.wrong import BOOKS, ROOMS, WOODS, check_errors, in_turns, one_room, turned_dict

BOOK = {"b": 5, "d": 6}
NONE = {"a": 0, "b": 9}


class Given(unittest.TestCase):
    """[119], [120], [121]"""

    def test_small_houses(self):
        seen = 0
        for chance, house, woods in small_cases(420, 100, 5, 3):
            book = random_book(chance, house, woods, 0.1)
            fires = all_fitting(house, woods, book)
            seen += len(fires) > 3
            if not fires:
                self.check_none(house, woods, book)
                continue
            first = first_given(house, woods, book)
            self.assertEqual(list(first.items()), chances_by([first for first, _ in fires]))
            for one, other in itertools.combinations(first, 2):
                self.assertTrue(set(path(house, one, other)) <= set(first))
            means = mean_given(house, woods, book)
            self.assertEqual(list(means), house.rooms())
            for room in house.rooms():
                hours = [fire[room] for _, fire in fires]
                self.assertEqual(list(hour_given(house, woods, book, room).items()), chances_by(hours))
                self.assertEqual(means[room], pair(Fraction(sum(hours), len(hours))))
            for one, other in itertools.product(house.rooms(), repeat=2):
                self.check_two(house, woods, book, fires, one, other)
        self.assertTrue(seen > 20, seen)

    def check_two(self, house, woods, book, fires, one, other):
        gaps = [fire[other] - fire[one] for _, fire in fires]
        self.assertEqual(list(gap_given(house, woods, book, one, other).items()), chances_by(gaps))
        ahead = tuple(pair(Fraction(len([gap for gap in gaps if sign(gap)]), len(gaps))) for sign in (
            lambda gap: gap > 0, lambda gap: gap == 0, lambda gap: gap < 0))
        self.assertEqual(ahead_given(house, woods, book, one, other), ahead)
        if other in ways_on(house, one):
            first = first_given(house, woods, book)
            side = [room for room in first if other not in path(house, one, room)]
            told = door_given(house, woods, book, one, other)
            self.assertEqual(told, pair(add_up([first[room] for room in side])))
            gone = [fire[one] < fire[other] for _, fire in fires]
            self.assertEqual(told, pair(Fraction(sum(gone), len(fires))))

    def check_none(self, house, woods, book):
        for call, things in ((first_given, ()), (door_given, ("zz", "zz")), (hour_given, (None,)), (mean_given, ()),
                             (gap_given, (0, 1)), (ahead_given, ("zz", "a"))):
            paper = raised(self, NoneFits, call, house, woods, book, *things).paper
            self.assertEqual(paper, paper_for(house, woods, book))
            self.assertTrue(is_paper(house, woods, book, paper))

    def test_one_room(self):
        house, woods, book = one_room(), {"a": 3}, {"a": -7}
        self.assertEqual((first_given(house, woods, book), hour_given(house, woods, book, "a")),
                         ({"a": (1, 1)}, {-7: (1, 1)}))
        self.assertEqual(mean_given(house, woods, book), {"a": (-7, 1)})
        self.assertEqual(gap_given(house, woods, book, "a", "a"), {0: (1, 1)})
        self.assertEqual(ahead_given(H, W, BOOK, "c", "c"), ((0, 1), (1, 1), (0, 1)))

    def test_twenty_rooms(self):
        for number, house in enumerate(great_houses(20)):
            chance = random.Random(number)
            woods = {room: 12 for room in house.rooms()} if number % 2 else random_woods(chance, house, 12)
            fire = fire_of(chance, house, woods)
            for many in (1, 2, 8):
                book = {room: fire[room] for room in chance.sample(house.rooms(), many)}
                means = mean_given(house, woods, book)
                self.assertEqual(add_up(first_given(house, woods, book).values()), 1)
                one, other = chance.sample(house.rooms(), 2)
                gaps = gap_given(house, woods, book, one, other)
                self.assertEqual(add_up(gaps.values()), 1)
                self.assertEqual(sum(gap * Fraction(*gaps[gap]) for gap in gaps),
                                 Fraction(*means[other]) - Fraction(*means[one]))
                self.assertEqual(add_up(ahead_given(house, woods, book, one, other)), 1)
                hours = hour_given(house, woods, book, one)
                self.assertEqual(pair(sum(hour * Fraction(*hours[hour]) for hour in hours)), means[one])
                near, far = chance.choice(house.doors())
                self.assertEqual(add_up([door_given(house, woods, book, near, far),
                                         door_given(house, woods, book, far, near)]), 1)

    def test_ends_of_a_row(self):
        """in good time, though both ends have many hours"""
        house = row_house(20)
        woods = {room: 12 for room in house.rooms()}
        for noted in (0, 10, 19):
            gaps = gap_given(house, woods, {house.rooms()[noted]: 0}, house.rooms()[0], house.rooms()[19])
            self.assertEqual((min(gaps), max(gaps)), (-228, 228))

    def test_errors(self):
        rows = [(1, BadWoods, WOODS), (2, BadBook, BOOKS)]
        for call in (first_given, mean_given):
            check_errors(self, call, (H, W, BOOK), rows)
        check_errors(self, hour_given, (H, W, BOOK, "c"), rows + [(3, NoRoom, ROOMS)])
        for call in (door_given, gap_given, ahead_given):
            check_errors(self, call, (H, W, BOOK, "a", "b"), rows + [(3, NoRoom, ROOMS), (4, NoRoom, ROOMS)])
        for one, other in (("a", "c"), ("b", "b"), ("d", "a")):
            error = raised(self, NoDoor, door_given, H, W, BOOK, one, other)
            self.assertEqual((error.one, error.other), (one, other))
        for call, things in ((first_given, ()), (door_given, ("zz", "zz")), (hour_given, ("zz",)), (mean_given, ()),
                             (gap_given, (0, 1)), (ahead_given, (0, 1))):
            raised(self, NothingTold, call, H, W, {}, *things)
            raised(self, BadWoods, call, H, {}, {}, *things)
            self.assertEqual(raised(self, NoneFits, call, H, W, NONE, *things).paper, ["a", "b"])

    def test_example(self):
        """[123]"""
        self.assertEqual(first_given(H, W, BOOK), {"a": (1, 3), "b": (1, 2), "c": (1, 6)})
        self.assertEqual(hour_given(H, W, BOOK, "c"), {4: (1, 6), 6: (5, 18), 7: (5, 18), 8: (5, 18)})
        self.assertEqual(mean_given(H, W, BOOK)["c"], (13, 2))
        self.assertEqual(gap_given(H, W, BOOK, "b", "c"), {-1: (1, 6), 1: (5, 18), 2: (5, 18), 3: (5, 18)})
        self.assertEqual(ahead_given(H, W, BOOK, "b", "c"), ((5, 6), (0, 1), (1, 6)))

    def test_in_turns(self):
        other = {"a": 1}
        in_turns(self, [lambda: first_given(H, W, BOOK), lambda: first_given(H, W, other),
                        lambda: gap_given(H, W, BOOK, "a", "c"), lambda: gap_given(H, dict(W, a=1), BOOK, "a", "c"),
                        lambda: mean_given(H, turned_dict(W), turned_dict(BOOK)), lambda: hour_given(H, W, other, "d")])
        woods, book = dict(W), dict(BOOK)
        self.assertEqual(first_given(H, woods, book), {"a": (1, 3), "b": (1, 2), "c": (1, 6)})
        book["c"] = 6
        self.assertEqual(first_given(H, woods, book), {"a": (2, 5), "b": (3, 5)})
        woods["a"] = 1
        self.assertEqual(first_given(H, woods, book), {"a": (1, 4), "b": (3, 4)})
        del book["b"], book["d"], book["c"]
        raised(self, NothingTold, first_given, H, woods, book)


if __name__ == "__main__":
    unittest.main()
