import itertools
import unittest

from hearths.errors import BadFire, BadSteps, BadWoods, NoRoom
from hearths.houses import House
from hearths.steps import fire_by, steps_of
from tests.brute import all_fires, great_houses, moved, outward, sample_of_objects, small_cases
from tests.test_fires import BAD_WOODS, F, H, W
from tests.test_ways import raised


class Steps(unittest.TestCase):
    """[33]"""

    def test_there_and_back(self):
        for _, house, woods in small_cases(80, 30, 5):
            for first, fire in all_fires(house, woods):
                ahead = dict(outward(house, first))
                steps = steps_of(house, woods, moved(fire, 5))
                told = [(room, fire[room] - fire[ahead[room]]) for room in house.rooms() if room != first]
                self.assertEqual(list(steps.items()), told)
                self.assertEqual(list(fire_by(house, woods, first, steps).items()), sorted(fire.items()))

    def test_any_steps_go_with_any_others(self):
        for _, house, woods in small_cases(81, 15, 4):
            for first in house.rooms():
                rows = outward(house, first)[1:]
                for numbers in itertools.product(range(4), repeat=len(rows)):
                    steps = {room: number for (room, _), number in zip(rows, numbers)}
                    if all(1 <= steps[room] <= woods[ahead] for room, ahead in rows):
                        self.assertEqual(steps_of(house, woods, fire_by(house, woods, first, steps)), steps)
                    else:
                        self.assertIs(raised(self, BadSteps, fire_by, house, woods, first, steps).thing, steps)

    def test_bad_steps(self):
        right = {"b": 2, "c": 3, "d": 1}
        self.assertEqual(fire_by(H, W, "a", right), {"a": 0, "b": 2, "c": 5, "d": 3})
        bad = [dict(right, a=1), {"b": 2, "c": 3}, {"a": 1, "b": 2, "c": 3}, dict(right, c=4), dict(right, b=0),
               dict(right, b=True), dict(right, b=None), dict(right, d="1"), dict(right, x=1), dict(right, b=-1)]
        for thing in bad + sample_of_objects(H):
            self.assertIs(raised(self, BadSteps, fire_by, H, W, "a", thing).thing, thing)

    def test_errors(self):
        for thing in BAD_WOODS + sample_of_objects(H):
            self.assertIs(raised(self, BadWoods, steps_of, H, thing, None).thing, thing)
            self.assertIs(raised(self, BadWoods, fire_by, H, thing, None, None).thing, thing)
        for thing in sample_of_objects(H) + [dict(F, d=6)]:
            self.assertIs(raised(self, BadFire, steps_of, H, W, thing).thing, thing)
            if not isinstance(thing, dict):
                self.assertIs(raised(self, NoRoom, fire_by, H, W, thing, None).thing, thing)

    def test_one_room(self):
        house = House(["a"], [])
        self.assertEqual(steps_of(house, {"a": 1}, {"a": 9}), {})
        self.assertEqual(fire_by(house, {"a": 1}, "a", {}), {"a": 0})

    def test_told_new(self):
        steps_of(H, W, F).clear()
        self.assertEqual(steps_of(H, W, F), {"b": 2, "c": 1, "d": 3})
        steps = {"d": 1, "c": 3, "b": 2}
        fire_by(H, W, "a", steps).clear()
        self.assertEqual(list(steps.items()), [("d", 1), ("c", 3), ("b", 2)])

    def test_sixty_rooms(self):
        for house in great_houses():
            woods = {room: 999999999 for room in house.rooms()}
            steps = {room: 999999999 - at for at, room in enumerate(house.rooms()) if at != 17}
            fire = fire_by(house, woods, house.rooms()[17], steps)
            self.assertEqual(steps_of(house, woods, fire), steps)


if __name__ == "__main__":
    unittest.main()
