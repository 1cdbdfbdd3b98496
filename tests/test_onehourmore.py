import random
import unittest
from collections import Counter
from fractions import Fraction

from hearths.errors import BadBook, BadWoods, NoneFits, NoRoom, NothingTold
from hearths.fittings import count_fitting
from hearths.onehourmore import best_asked, first_known, left_mean
from tests.brute import all_fitting, great_houses, random_book, random_woods, small_cases
from tests.test_firechances import pair
from tests.test_fires import H, W
from tests.test_fittings import fire_of
from tests.test_given import BOOK, NONE
from tests.test_ways import raised
from tests.wrong import BOOKS, ROOMS, WOODS, check_errors, in_turns, one_room, turned_dict


class OneHourMore(unittest.TestCase):
    """[122]"""

    def test_small_houses(self):
        known = {True: 0, False: 0}
        for chance, house, woods in small_cases(430, 100, 5, 3):
            book = random_book(chance, house, woods, 0.1)
            fires = all_fitting(house, woods, book)
            if not fires:
                raised(self, NoneFits, best_asked, house, woods, book)
                continue
            lefts = {}
            for room in house.rooms():
                many = Counter(fire[room] for _, fire in fires)
                firsts = {hour: {first for first, fire in fires if fire[room] == hour} for hour in many}
                lefts[room] = Fraction(sum(many[fire[room]] for _, fire in fires), len(fires))
                self.assertEqual(left_mean(house, woods, book, room), pair(lefts[room]))
                sure = [hour for hour in many if len(firsts[hour]) == 1]
                self.assertEqual(first_known(house, woods, book, room),
                                 pair(Fraction(sum(many[hour] for hour in sure), len(fires))))
                known[len(sure) == len(many)] += 1
                self.assertEqual(lefts[room] == len(fires), len(many) == 1)
            self.assertEqual(best_asked(house, woods, book), min(house.rooms(), key=lambda room: lefts[room]))
        self.assertTrue(min(known.values()) > 30, known)

    def test_one_room(self):
        house, woods, book = one_room(), {"a": 3}, {"a": -7}
        self.assertEqual((left_mean(house, woods, book, "a"), first_known(house, woods, book, "a")), ((1, 1), (1, 1)))
        self.assertEqual(best_asked(house, woods, book), "a")

    def test_ten_rooms(self):
        for number, house in enumerate(great_houses(10)):
            chance = random.Random(number)
            woods = {room: 12 for room in house.rooms()} if number % 2 else random_woods(chance, house, 12)
            fire = fire_of(chance, house, woods)
            for many in (1, 3):
                book = {room: fire[room] for room in chance.sample(house.rooms(), many)}
                lefts = {room: Fraction(*left_mean(house, woods, book, room)) for room in house.rooms()}
                for room in book:
                    self.assertEqual(lefts[room], count_fitting(house, woods, book))
                best = best_asked(house, woods, book)
                self.assertEqual(best, min(room for room in lefts if lefts[room] == min(lefts.values())))
                self.assertTrue(0 <= Fraction(*first_known(house, woods, book, best)) <= 1)

    def test_errors(self):
        rows = [(1, BadWoods, WOODS), (2, BadBook, BOOKS)]
        check_errors(self, best_asked, (H, W, BOOK), rows)
        for call in (left_mean, first_known):
            check_errors(self, call, (H, W, BOOK, "a"), rows + [(3, NoRoom, ROOMS)])
        for call, things in ((best_asked, ()), (left_mean, ("zz",)), (first_known, (None,))):
            raised(self, NothingTold, call, H, W, {}, *things)
            self.assertEqual(raised(self, NoneFits, call, H, W, NONE, *things).paper, ["a", "b"])

    def test_example(self):
        """[123]"""
        self.assertEqual(count_fitting(H, W, BOOK), 18)
        self.assertEqual(left_mean(H, W, BOOK, "a"), (11, 3))
        self.assertEqual(left_mean(H, W, BOOK, "c"), (14, 3))
        self.assertEqual(best_asked(H, W, BOOK), "a")
        self.assertEqual(first_known(H, W, BOOK, "a"), (1, 3))

    def test_in_turns(self):
        other = {"a": 1}
        in_turns(self, [lambda: left_mean(H, W, BOOK, "a"), lambda: left_mean(H, W, other, "c"),
                        lambda: best_asked(H, W, BOOK), lambda: best_asked(H, dict(W, a=1), other),
                        lambda: first_known(H, turned_dict(W), turned_dict(BOOK), "a")])
        woods, book = dict(W), dict(BOOK)
        self.assertEqual(left_mean(H, woods, book, "a"), (11, 3))
        woods["c"] = 4
        self.assertEqual(left_mean(H, woods, book, "a"), left_mean(H, dict(W, c=4), BOOK, "a"))
        book["a"] = 4
        self.assertEqual(left_mean(H, woods, book, "a"), (3, 1))


if __name__ == "__main__":
    unittest.main()
