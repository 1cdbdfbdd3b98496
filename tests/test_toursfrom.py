import random
import unittest
from collections import Counter
from math import factorial

from hearths.errors import BadBack, BadWoods, NoRoom
from hearths.tours import late_in_tour, tour_hours
from hearths.toursfrom import (firsts_of_tours, lacking_wood, last_rooms, least_wanted, short_room, tour_from,
                               tour_lengths)
from tests.brute import great_houses, house_of, outward, path, random_woods, small_cases, star_house, tours_in_time
from tests.test_fires import H, W
from tests.wrong import NUMBERS, ROOMS, WOODS, check_errors, in_turns, one_room, turned_dict


def wants_by_words(house, back, first):
    """The dict to what each room wants: [106]."""
    rows = outward(house, first)
    sizes, behind = {room: 1 for room, _ in rows}, {room: [] for room, _ in rows}
    for room, came in rows[:0:-1]:
        sizes[came] += sizes[room]
        behind[came].append(sizes[room])
    return {room: 1 + (1 + back) * sum(sorted(behind[room])[:-1]) for room in house.rooms()}


class From(unittest.TestCase):
    """[106], [108], [109], [110]"""

    def test_small_houses(self):
        seen = {True: 0, False: 0}
        for chance, house, woods in small_cases(360, 120, 6, 7):
            for back in (0, 1, 2):
                firsts = []
                for first in house.rooms():
                    told = tours_in_time(house, woods, back, first)
                    seen[bool(told)] += 1
                    firsts += [first] if told else []
                    self.check(house, woods, back, first, told)
                self.assertEqual(firsts_of_tours(house, woods, back), firsts)
                lacking = [(sum(lacking_wood(house, woods, back, first).values()), first) for first in house.rooms()]
                self.assertEqual(least_wanted(house, woods, back), min(lacking))
        self.assertTrue(min(seen.values()) > 200)

    def check(self, house, woods, back, first, told):
        self.assertEqual(tour_from(house, woods, back, first), told[0][0] if told else None)
        wanted = wants_by_words(house, back, first)
        lacking = {room: wanted[room] - woods[room] for room in wanted if wanted[room] > woods[room]}
        short = short_room(house, woods, back, first)
        self.assertEqual(short is None, bool(told))
        self.assertEqual(short, (min(lacking), wanted[min(lacking)]) if lacking else None)
        self.assertEqual(list(lacking_wood(house, woods, back, first).items()), sorted(lacking.items()))
        lasts = Counter(tour[-1] for tour, _ in told)
        self.assertEqual(list(last_rooms(house, woods, back, first).items()), sorted(lasts.items()))
        lengths = Counter(max(hours.values()) for _, hours in told)
        self.assertEqual(list(tour_lengths(house, woods, back, first).items()), sorted(lengths.items()))
        for room in lasts:
            hour = (1 + back) * (len(house) - 1) - back * (len(path(house, first, room)) - 1)
            self.assertIn(hour, lengths)

    def test_enough_wood_more(self):
        """with what lacks laid on there is a tour, with an hour less at any room there is none"""
        for chance, house, woods in small_cases(361, 60, 7, 3):
            for first in house.rooms():
                lacking = lacking_wood(house, woods, 1, first)
                there = {room: woods[room] + lacking.get(room, 0) for room in woods}
                self.assertIsNotNone(tour_from(house, there, 1, first))
                for room in lacking:
                    self.assertIsNone(tour_from(house, dict(there, **{room: there[room] - 1}), 1, first))

    def test_firsts_need_not_hang_together(self):
        self.assertEqual(firsts_of_tours(H, W, 1), ["a", "c", "d"])

    def test_one_room(self):
        house, woods = one_room(), {"a": 1}
        self.assertEqual(tour_from(house, woods, 3, "a"), ["a"])
        self.assertIsNone(short_room(house, woods, 3, "a"))
        self.assertEqual(last_rooms(house, woods, 3, "a"), {"a": 1})
        self.assertEqual(tour_lengths(house, woods, 3, "a"), {0: 1})
        self.assertEqual((lacking_wood(house, woods, 0, "a"), least_wanted(house, woods, 0)), ({}, (0, "a")))

    def test_ascending_hours(self):
        house = house_of("ab bc ad")
        woods = {room: 9 for room in "abcd"}
        self.assertEqual(list(tour_lengths(house, woods, 1, "a").items()), [(4, 1), (5, 1)])
        self.assertEqual(list(last_rooms(house, woods, 1, "a").items()), [("c", 1), ("d", 1)])

    def test_sixty_rooms(self):
        for number, house in enumerate(great_houses()):
            chance = random.Random(number)
            for back in (0, 1, 999999999):
                first = chance.choice(house.rooms())
                wanted = wants_by_words(house, back, first)
                tour = tour_from(house, wanted, back, first)
                self.assertIsNone(late_in_tour(house, wanted, back, tour))
                self.assertEqual(tour[0], first)
                lengths, lasts = (tour_lengths(house, wanted, back, first), last_rooms(house, wanted, back, first))
                self.assertEqual(sum(lengths.values()), sum(lasts.values()))
                self.assertIn(max(tour_hours(house, back, tour).values()), lengths)
                woods = random_woods(chance, house, 999999999)
                self.assertEqual(least_wanted(house, woods, back)[0] == 0, bool(firsts_of_tours(house, woods, back)))
                room = chance.choice(house.rooms())
                if wanted[room] > 1:
                    less = dict(wanted, **{room: wanted[room] - 1})
                    self.assertEqual(short_room(house, less, back, first), (room, wanted[room]))
                    self.assertEqual((tour_from(house, less, back, first), last_rooms(house, less, back, first)), (None, {}))
                    self.assertEqual(tour_lengths(house, less, back, first), {})
                    self.assertEqual(lacking_wood(house, less, back, first), {room: 1})

    def test_star_of_sixty(self):
        house = star_house(60)
        woods = {room: 999999999 for room in house.rooms()}
        first = outward(house, house.rooms()[30])[0][0]
        self.assertEqual(set(last_rooms(house, woods, 0, first).values()), {factorial(58)})
        self.assertEqual(tour_lengths(house, woods, 0, first), {59: factorial(59)})
        self.assertEqual(tour_from(house, woods, 0, first), [first] + [room for room in house.rooms() if room != first])

    def test_errors(self):
        rows = [(1, BadWoods, WOODS), (2, BadBack, NUMBERS)]
        for call in (tour_from, short_room, last_rooms, tour_lengths, lacking_wood):
            check_errors(self, call, (H, W, 1, "b"), rows + [(3, NoRoom, ROOMS)])
        for call in (firsts_of_tours, least_wanted):
            check_errors(self, call, (H, W, 1), rows)

    def test_example(self):
        """[113]"""
        self.assertIsNone(short_room(H, W, 1, "a"))
        self.assertEqual(tour_from(H, W, 1, "a"), ["a", "b", "c", "d"])
        self.assertEqual(short_room(H, dict(W, b=2), 1, "a"), ("b", 3))
        self.assertEqual(last_rooms(H, W, 1, "a"), {"c": 1, "d": 1})
        self.assertEqual(tour_lengths(H, W, 1, "a"), {4: 2})
        self.assertEqual(short_room(H, W, 1, "b"), ("b", 5))
        self.assertEqual(lacking_wood(H, W, 1, "b"), {"b": 2})
        self.assertEqual(firsts_of_tours(H, W, 1), ["a", "c", "d"])
        self.assertEqual(least_wanted(H, W, 1), (0, "a"))
        self.assertEqual(short_room(H, dict(W, b=2), 0, "b"), ("b", 3))

    def test_in_turns(self):
        other = dict(W, b=9)
        in_turns(self, [lambda: tour_from(H, W, 1, "a"), lambda: tour_from(H, other, 1, "b"),
                        lambda: last_rooms(H, other, 1, "b"), lambda: last_rooms(H, other, 2, "b"),
                        lambda: tour_lengths(H, W, 0, "a"), lambda: lacking_wood(H, W, 1, "b"),
                        lambda: firsts_of_tours(H, W, 1), lambda: firsts_of_tours(H, turned_dict(W), 0)])
        woods = dict(W)
        self.assertIsNone(tour_from(H, woods, 1, "b"))
        woods["b"] = 5
        self.assertEqual(tour_from(H, woods, 1, "b"), ["b", "a", "c", "d"])
        woods["b"] = 2
        self.assertEqual(least_wanted(H, woods, 1), (1, "a"))


if __name__ == "__main__":
    unittest.main()
