import random
import unittest
from math import factorial

from hearths.errors import BadBack, BadNumber, BadTour, BadWoods, NoRoom
from hearths.tournumbers import count_tours, next_tour, tour_number, tour_numbered
from hearths.tours import is_tour, late_in_tour
from tests.brute import all_tours, great_houses, row_house, small_cases, star_house, tours_in_time
from tests.test_fires import H, W
from tests.test_tours import NO_TOURS
from tests.test_toursfrom import wants_by_words
from tests.test_ways import raised
from tests.wrong import INTEGERS, NUMBERS, ROOMS, WOODS, check_errors, in_turns, one_room, turned_dict


class Numbers(unittest.TestCase):
    """[107]"""

    def test_small_houses(self):
        seen = 0
        for chance, house, woods in small_cases(370, 100, 6, 12):
            back = chance.choice([0, 0, 1, 2])
            for first in house.rooms():
                tours = [tour for tour, _ in tours_in_time(house, woods, back, first)]
                self.assertEqual(count_tours(house, woods, back, first), len(tours))
                seen += len(tours) > 2
                for number, tour in enumerate(tours):
                    self.assertEqual(tour_numbered(house, woods, back, first, number), tour)
                    self.assertEqual(tour_number(house, woods, back, tour), number)
                    following = tours[number + 1] if number + 1 < len(tours) else None
                    self.assertEqual(next_tour(house, woods, back, tuple(tour)), following)
                for tour in all_tours(house, first):
                    if tour not in tours:
                        self.assertIsNone(tour_number(house, woods, back, tour))
                        self.assertIsNone(next_tour(house, woods, back, tour))
                for number in (-1, len(tours), 10 ** 30):
                    self.assertIs(raised(self, BadNumber, tour_numbered, house, woods, back, first, number).thing, number)
        self.assertTrue(seen > 30, seen)

    def test_one_room(self):
        house = one_room()
        self.assertEqual(count_tours(house, {"a": 1}, 0, "a"), 1)
        self.assertEqual(tour_numbered(house, {"a": 1}, 0, "a", 0), ["a"])
        self.assertEqual((tour_number(house, {"a": 1}, 0, ["a"]), next_tour(house, {"a": 1}, 0, ["a"])), (0, None))

    def test_sixty_rooms(self):
        for number, house in enumerate(great_houses()):
            chance = random.Random(number)
            first = chance.choice(house.rooms())
            for back in (0, 1, 999999999):
                plenty = {room: 60 * (1 + back) for room in house.rooms()}
                for woods in (plenty, wants_by_words(house, back, first)):
                    self.check_great(chance, house, woods, back, first)

    def check_great(self, chance, house, woods, back, first):
        many = count_tours(house, woods, back, first)
        numbers = sorted({0, many - 1} | {chance.randrange(many) for _ in range(3)})
        tours = []
        for number in numbers:
            tour = tour_numbered(house, woods, back, first, number)
            self.assertTrue(is_tour(house, tour))
            self.assertIsNone(late_in_tour(house, woods, back, tour))
            self.assertEqual(tour_number(house, woods, back, tour), number)
            following = next_tour(house, woods, back, tour)
            self.assertEqual(following is None, number == many - 1)
            if following is not None:
                self.assertEqual(tour_number(house, woods, back, following), number + 1)
                self.assertTrue(following > tour)
            tours.append(tour)
        self.assertEqual(tours, sorted(tours))

    def test_long_counts(self):
        star, row = star_house(60), row_house(60)
        woods = {room: 60 for room in star.rooms()}
        center, leaf = star.rooms()[30], star.rooms()[0]
        self.assertEqual(count_tours(star, woods, 0, center), factorial(59))
        self.assertEqual(count_tours(star, woods, 0, leaf), factorial(58))
        self.assertEqual(count_tours(star, dict(woods, **{center: 58}), 0, center), 0)
        last = tour_numbered(star, woods, 0, center, factorial(59) - 1)
        self.assertEqual(last, [center] + [room for room in star.rooms()[::-1] if room != center])
        self.assertEqual(count_tours(row, woods, 0, row.rooms()[0]), 1)
        self.assertEqual(count_tours(row, woods, 0, row.rooms()[20]), 2)
        self.assertEqual(count_tours(row, dict(woods, **{row.rooms()[20]: 30}), 0, row.rooms()[20]), 1)
        self.assertEqual(count_tours(row, woods, 1, row.rooms()[20]), 1)
        self.assertEqual(count_tours(row, woods, 2, row.rooms()[20]), 0)

    def test_errors(self):
        rows = [(1, BadWoods, WOODS), (2, BadBack, NUMBERS)]
        check_errors(self, count_tours, (H, W, 1, "b"), rows + [(3, NoRoom, ROOMS)])
        check_errors(self, tour_numbered, (H, W, 1, "a", 1),
                     rows + [(3, NoRoom, ROOMS), (4, BadNumber, INTEGERS + [-1, 2, 10 ** 50])])
        for call in (tour_number, next_tour):
            check_errors(self, call, (H, W, 1, ["a", "b", "c", "d"]), rows + [(3, BadTour, NO_TOURS)])

    def test_example(self):
        """[113]"""
        self.assertEqual(count_tours(H, W, 1, "a"), 2)
        self.assertEqual([tour_numbered(H, W, 1, "a", number) for number in (0, 1)],
                         [["a", "b", "c", "d"], ["a", "b", "d", "c"]])
        self.assertEqual(count_tours(H, W, 0, "b"), 6)

    def test_in_turns(self):
        other = dict(W, b=9)
        in_turns(self, [lambda: tour_numbered(H, W, 0, "b", 4), lambda: tour_numbered(H, other, 1, "b", 3),
                        lambda: next_tour(H, W, 0, ["b", "a", "c", "d"]), lambda: count_tours(H, turned_dict(other), 1, "b"),
                        lambda: tour_numbered(H, turned_dict(W), 0, "b", 4)])
        woods = dict(W)
        self.assertEqual(count_tours(H, woods, 1, "b"), 0)
        woods["b"] = 5
        self.assertEqual(count_tours(H, woods, 1, "b"), 6)
        tour = ["b", "a", "c", "d"]
        self.assertEqual(next_tour(H, woods, 1, tour), ["b", "a", "d", "c"])
        self.assertEqual(tour, ["b", "a", "c", "d"])


if __name__ == "__main__":
    unittest.main()
