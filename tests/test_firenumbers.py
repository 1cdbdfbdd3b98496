import random
import unittest

from hearths.errors import BadFire, BadNumber, BadWoods, HearthError
from hearths.firecounts import count_fires
from hearths.firenumbers import drawn_fire, fire_at, fire_number, next_fire
from hearths.fires import is_fire
from hearths.houses import House
from tests.brute import all_fires, great_houses, moved, outward, sample_of_objects, small_cases
from tests.test_fires import BAD_WOODS, F, H, W
from tests.test_ways import raised


def place(house, first, fire):
    """By what fires compare: their first rooms, then their steps, rooms ascending."""
    ahead = dict(outward(house, first))
    return (first, [fire[room] - fire[ahead[room]] for room in house.rooms() if room != first])


class InOrder(unittest.TestCase):
    """[35]"""

    def test_small_houses(self):
        for _, house, woods in small_cases(100, 40, 5):
            fires = sorted(all_fires(house, woods), key=lambda pair: place(house, *pair))
            for number, (_, fire) in enumerate(fires):
                self.assertEqual(list(fire_at(house, woods, number).items()), sorted(fire.items()))
                self.assertEqual(fire_number(house, woods, moved(fire, number - 7)), number)
                further = fires[number + 1][1] if number + 1 < len(fires) else None
                self.assertEqual(next_fire(house, woods, fire), further)
                there = next_fire(house, woods, moved(fire, -40))
                self.assertEqual(there, None if further is None else moved(further, -40))
                self.assertEqual(drawn_fire(house, woods, lambda many: number), fire)

    def test_bad_numbers(self):
        numbers = [63, 64, -1, True, False, 10 ** 50, None, "0", [], [1], {}, H, len]
        for thing in numbers:
            self.assertIs(raised(self, BadNumber, fire_at, H, W, thing).thing, thing)
            self.assertIs(raised(self, BadNumber, drawn_fire, H, W, lambda many: thing).thing, thing)
        self.assertIs(raised(self, BadNumber, fire_at, House(["a"], []), {"a": 2}, 1).thing, 1)

    def test_drawn_asks_once(self):
        asked = []

        def chooser(many):
            asked.append(many)
            return 62

        self.assertEqual(drawn_fire(H, W, chooser), {"a": 4, "b": 1, "c": 4, "d": 0})
        self.assertEqual(asked, [63])
        raised(self, BadNumber, drawn_fire, H, W, lambda many: asked.append(many))
        self.assertEqual(asked, [63, 63])

    def test_errors_of_the_chooser_go_through(self):
        class Own(Exception):
            pass

        for error in (Own("x"), HearthError(), KeyError("x"), BadNumber(None)):
            def chooser(many):
                raise error

            with self.assertRaises(error.__class__) as caught:
                drawn_fire(H, W, chooser)
            self.assertIs(caught.exception, error)

    def test_the_chooser_is_not_asked_of_bad_woods(self):
        asked = []
        for thing in BAD_WOODS:
            self.assertIs(raised(self, BadWoods, drawn_fire, H, thing, asked.append).thing, thing)
        self.assertEqual(asked, [])

    def test_the_chooser_changes_nothing(self):
        woods = dict(W)

        def chooser(many):
            woods["a"] = 1
            woods["b"] = 1
            return 62

        self.assertEqual(drawn_fire(H, woods, chooser), {"a": 4, "b": 1, "c": 4, "d": 0})

    def test_errors(self):
        for thing in BAD_WOODS + sample_of_objects(H):
            for call in (fire_at, fire_number, next_fire):
                self.assertIs(raised(self, BadWoods, call, H, thing, None).thing, thing)
        for thing in sample_of_objects(H) + [dict(F, d=6)]:
            for call in (fire_number, next_fire):
                self.assertIs(raised(self, BadFire, call, H, W, thing).thing, thing)

    def test_example(self):
        self.assertEqual(fire_number(H, W, F), 11)
        self.assertEqual(next_fire(H, W, F), {"a": 4, "b": 6, "c": 8, "d": 7})
        self.assertEqual(fire_at(H, W, 62), {"a": 4, "b": 1, "c": 4, "d": 0})

    def test_great_houses(self):
        for seed, house in enumerate(great_houses()):
            chance = random.Random(seed)
            woods = {room: chance.randint(1, 999999999) for room in house.rooms()}
            many = count_fires(house, woods)
            for number in [0, many - 1] + [chance.randrange(many) for _ in range(10)]:
                fire = fire_at(house, woods, number)
                self.assertTrue(is_fire(house, woods, fire))
                self.assertEqual(min(fire.values()), 0)
                self.assertEqual(fire_number(house, woods, fire), number)
                further = next_fire(house, woods, fire)
                self.assertEqual(further, fire_at(house, woods, number + 1) if number + 1 < many else None)
            self.assertEqual(raised(self, BadNumber, fire_at, house, woods, many).thing, many)


if __name__ == "__main__":
    unittest.main()
