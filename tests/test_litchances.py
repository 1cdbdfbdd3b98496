import random
import unittest
from fractions import Fraction

from hearths.errors import BadChance, BadHours, BadWoods
from hearths.firechances import hour_chances
from hearths.litchances import last_chances, lit_chances, mean_burning, mean_last, surely_by
from tests.brute import all_fires, great_houses, random_woods, small_cases
from tests.test_firechances import add_up, chances_by, pair
from tests.test_fires import H, W
from tests.test_ways import raised
from tests.wrong import ALL, INTEGERS, WOODS, check_errors, in_turns, one_room, turned_dict

NO_CHANCES = ALL + [(0, 1), (2, 1), (-1, 2), (1, -2), (-1, -2), (1, 0), (1,), (1, 2, 3), (True, 1), (1, True), ("1", 2),
                    (1, None), [0, 5], {0: 1, 1: 2}, "12", 1, (1, [2])]


class Lit(unittest.TestCase):
    """[117], [118]"""

    def test_small_houses(self):
        for chance, house, woods in small_cases(410, 60, 5, 3):
            fires = [fire for _, fire in all_fires(house, woods)]
            lasts = [max(fire.values()) for fire in fires]
            self.assertEqual(list(last_chances(house, woods).items()), chances_by(lasts))
            self.assertEqual(mean_last(house, woods), pair(Fraction(sum(lasts), len(lasts))))
            for hours in range(-2, max(lasts) + 3):
                self.check(house, woods, fires, hours)
            for number in range(12):
                under = chance.randint(1, 40)
                over = chance.randint(1, under)
                least = min(hour for hour in lasts
                            if Fraction(len([last for last in lasts if last <= hour]), len(lasts)) >= Fraction(over, under))
                self.assertEqual(surely_by(house, woods, chance.choice([(over, under), [over * 6, under * 6]])), least)

    def check(self, house, woods, fires, hours):
        lit = {room: pair(Fraction(len([fire for fire in fires if fire[room] <= hours]), len(fires)))
               for room in house.rooms()}
        self.assertEqual(list(lit_chances(house, woods, hours).items()), list(lit.items()))
        burning = [len([room for room in fire if fire[room] <= hours < fire[room] + woods[room]]) for fire in fires]
        self.assertEqual(mean_burning(house, woods, hours), pair(Fraction(sum(burning), len(fires))))
        for fire, many in zip(fires, burning):
            self.assertTrue(many > 0 or not 0 <= hours <= max(fire.values()))

    def test_exact_chances(self):
        """at least this chance: the chance itself is enough, a little more is not"""
        told = last_chances(H, W)
        for at, hour in enumerate(told):
            over, under = pair(add_up(list(told.values())[:at + 1]))
            self.assertEqual(surely_by(H, W, (over, under)), hour)
            if hour < max(told):
                self.assertEqual(surely_by(H, W, (over * 1000 + 1, under * 1000)), list(told)[at + 1])
        for many in (1, 7, 999999999):
            self.assertEqual(surely_by(H, W, (many, many)), 5)
        self.assertEqual(surely_by(H, W, (1, 999999999)), 1)

    def test_one_room(self):
        house, woods = one_room(), {"a": 3}
        self.assertEqual((last_chances(house, woods), mean_last(house, woods)), ({0: (1, 1)}, (0, 1)))
        self.assertEqual(surely_by(house, woods, (1, 2)), 0)
        self.assertEqual([mean_burning(house, woods, hour) for hour in (-1, 0, 2, 3)], [(0, 1), (1, 1), (1, 1), (0, 1)])
        self.assertEqual([lit_chances(house, woods, hour) for hour in (-1, 0)], [{"a": (0, 1)}, {"a": (1, 1)}])

    def test_twenty_rooms(self):
        for number, house in enumerate(great_houses(20)):
            chance = random.Random(number)
            for woods in ({room: 12 for room in house.rooms()}, random_woods(chance, house, 12)):
                lasts = last_chances(house, woods)
                self.assertEqual(add_up(lasts.values()), 1)
                self.assertEqual(pair(sum(hour * Fraction(*lasts[hour]) for hour in lasts)), mean_last(house, woods))
                hour = surely_by(house, woods, (9, 10))
                self.assertTrue(sum(Fraction(*lasts[last]) for last in lasts if last <= hour) >= Fraction(9, 10))
                self.assertTrue(sum(Fraction(*lasts[last]) for last in lasts if last < hour) < Fraction(9, 10))
                lit = lit_chances(house, woods, 30)
                room = chance.choice(house.rooms())
                told = hour_chances(house, woods, room)
                self.assertEqual(lit[room], pair(sum(Fraction(*told[hour]) for hour in told if hour <= 30)))
                self.assertTrue(0 < Fraction(*mean_burning(house, woods, 5)) < 20)
                for hours in (-999999999, 999999999):
                    self.assertEqual(mean_burning(house, woods, hours), (0, 1))
                    self.assertEqual(set(lit_chances(house, woods, hours).values()), {(int(hours > 0), 1)})

    def test_errors(self):
        rows = [(1, BadWoods, WOODS)]
        for call in (last_chances, mean_last):
            check_errors(self, call, (H, W), rows)
        for call in (lit_chances, mean_burning):
            check_errors(self, call, (H, W, 1), rows + [(2, BadHours, INTEGERS)])
        check_errors(self, surely_by, (H, W, (1, 2)), rows + [(2, BadChance, NO_CHANCES)])
        raised(self, BadWoods, surely_by, H, {}, (2, 1))

    def test_example(self):
        """[118]"""
        self.assertEqual(lit_chances(H, W, 1), {"a": (3, 7), "b": (6, 7), "c": (2, 7), "d": (2, 7)})
        self.assertEqual(mean_burning(H, W, 1), (11, 7))
        self.assertEqual(mean_last(H, W), (205, 63))
        self.assertEqual(surely_by(H, W, (1, 2)), 3)

    def test_in_turns(self):
        other = dict(W, b=1)
        in_turns(self, [lambda: lit_chances(H, W, 2), lambda: lit_chances(H, other, 2), lambda: lit_chances(H, W, 3),
                        lambda: last_chances(H, W), lambda: last_chances(H, turned_dict(other)),
                        lambda: mean_burning(H, other, 1)])
        woods = dict(W)
        self.assertEqual(mean_last(H, woods), (205, 63))
        woods["b"] = 1
        self.assertEqual(mean_last(H, woods), mean_last(H, other))
        self.assertNotEqual(mean_last(H, woods), (205, 63))


if __name__ == "__main__":
    unittest.main()
