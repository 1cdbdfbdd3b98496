import itertools
import random
import unittest

from hearths.errors import BadBack, BadTour, BadWoods
from hearths.fires import is_fire
from hearths.tours import is_tour, late_in_tour, tour_hours
from tests.brute import all_tours, great_houses, house_of, small_cases, tour_by_words
from tests.test_fires import H, W
from tests.test_ways import raised
from tests.wrong import ALL, NO_LISTS, NUMBERS, WOODS, check_errors, in_turns, one_room, turned_dict

NO_TOURS = NO_LISTS + [([], 0), ((), 0), (["a"], 1), (["a", "b"], 2), (["b", "c", "a"], 3), (["a", "c"], 1),
                       (["a", "a"], 1), (["b", "a", "c", "a"], 3), (["a", "b", "c", "d", "a"], 4),
                       (["c", "b", "a", "d", None], 4), (("z", "b"), 0), ([["a"], "b"], 0)]
NO_TOURS += [(["b", thing, "c", "d"], 1) for thing in ALL]


def random_tour(chance, house):
    """A tour, not in time, of a great house."""
    rooms = [chance.choice(house.rooms())]
    near = {room: [] for room in house.rooms()}
    for one, other in house.doors():
        near[one].append(other)
        near[other].append(one)
    tour, done = [], set()
    while rooms:
        room = rooms.pop()
        if room not in done:
            done.add(room)
            tour.append(room)
            rooms += chance.sample([far for far in near[room] if far not in done],
                                   len([far for far in near[room] if far not in done]))
    return tour


class Tours(unittest.TestCase):
    """[104]"""

    def test_all_lists_of_rooms(self):
        for _, house, _ in small_cases(350, 40, 4):
            rooms = house.rooms()
            tours = [tour for first in rooms for tour in all_tours(house, first)]
            starts = {tuple(tour[:many]) for tour in tours for many in range(len(house) + 1)}
            for many in range(len(house) + 2):
                for some in itertools.product(rooms, repeat=many):
                    told = list(some) in tours
                    self.assertIs(is_tour(house, some), told)
                    self.assertIs(is_tour(house, list(some)), told)
                    if not told:
                        at = next((at for at in range(many) if some[:at + 1] not in starts), many)
                        self.assertEqual(raised(self, BadTour, tour_hours, house, 0, some).index, at)

    def test_five_rooms(self):
        for _, house, _ in small_cases(351, 30, 6):
            tours = [tour for first in house.rooms() for tour in all_tours(house, first)]
            for some in itertools.permutations(house.rooms()):
                self.assertIs(is_tour(house, list(some)), list(some) in tours)

    def test_any_object(self):
        for thing in ALL + [thing for thing, _ in NO_TOURS] + ["abcd", {"a": 1, "b": 1, "c": 1, "d": 1}]:
            self.assertIs(is_tour(H, thing), False)
        self.assertIs(is_tour(H, ("a", "b", "d", "c")), True)
        self.assertIs(is_tour(one_room(), ["a"]), True)
        self.assertIs(is_tour(one_room(), ["a", "a"]), False)

    def test_hours(self):
        for chance, house, woods in small_cases(352, 60, 6):
            for first in house.rooms():
                tour = chance.choice(all_tours(house, first))
                for back in (0, 1, 3, 999999999):
                    told = tour_hours(house, back, tuple(tour))
                    self.assertEqual(told, tour_by_words(house, back, tour)[0])
                    self.assertEqual(list(told), house.rooms())

    def test_late(self):
        """[105]"""
        seen = {True: 0, False: 0}
        for chance, house, woods in small_cases(353, 100, 6, 6):
            for first in house.rooms():
                for tour in all_tours(house, first)[:6]:
                    back = chance.choice([0, 1, 2, 999999999])
                    hours, lit = tour_by_words(house, back, tour)
                    late = [room for room in tour[1:] if hours[room] - hours[lit[room]] > woods[lit[room]]]
                    told = late_in_tour(house, woods, back, tour)
                    self.assertEqual(told, late[0] if late else None)
                    self.assertEqual(told is None, is_fire(house, woods, tour_hours(house, back, tour)))
                    seen[told is None] += 1
        self.assertTrue(min(seen.values()) > 50)

    def test_sixty_rooms(self):
        for number, house in enumerate(great_houses()):
            chance = random.Random(number)
            tour = random_tour(chance, house)
            self.assertIs(is_tour(house, tour), True)
            for back in (0, 999999999):
                hours = tour_hours(house, back, tour)
                self.assertEqual(hours, tour_by_words(house, back, tour)[0])
                self.assertIsNone(late_in_tour(house, {room: 60 * (1 + back) for room in tour}, back, tour))
            for at in (1, 30, 59):
                self.assertEqual(raised(self, BadTour, tour_hours, house, 1, tour[:at] + [tour[0]]).index, at)
                self.assertEqual(raised(self, BadTour, tour_hours, house, 1, tour[:at]).index, at)

    def test_errors(self):
        check_errors(self, tour_hours, (H, 1, ["a", "b", "c", "d"]), [(1, BadBack, NUMBERS), (2, BadTour, NO_TOURS)])
        check_errors(self, late_in_tour, (H, W, 1, ["a", "b", "c", "d"]),
                     [(1, BadWoods, WOODS), (2, BadBack, NUMBERS), (3, BadTour, NO_TOURS)])

    def test_example(self):
        """[113]"""
        self.assertEqual(tour_hours(H, 1, ["a", "b", "c", "d"]), {"a": 0, "b": 1, "c": 2, "d": 4})
        self.assertIsNone(late_in_tour(H, W, 1, ["a", "b", "c", "d"]))
        self.assertEqual(late_in_tour(H, W, 1, ["b", "a", "c", "d"]), "d")

    def test_in_turns(self):
        in_turns(self, [lambda: tour_hours(H, 1, ["b", "a", "c", "d"]), lambda: tour_hours(H, 2, ("b", "a", "c", "d")),
                        lambda: tour_hours(house_of("ab bc cd"), 1, ["b", "a", "c", "d"]),
                        lambda: late_in_tour(H, W, 1, ["b", "c", "a", "d"]),
                        lambda: late_in_tour(H, turned_dict(W), 0, ["b", "c", "a", "d"])])
        woods, tour = dict(W), ["b", "c", "a", "d"]
        self.assertEqual(late_in_tour(H, woods, 1, tour), "d")
        woods["b"] = 5
        self.assertIsNone(late_in_tour(H, woods, 1, tour))
        tour.reverse()
        self.assertEqual(raised(self, BadTour, late_in_tour, H, woods, 1, tour).index, 1)
        self.assertEqual(tour, ["d", "a", "c", "b"])


if __name__ == "__main__":
    unittest.main()
