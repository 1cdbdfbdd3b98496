import random
import unittest

from hearths.errors import BadFire, BadSayings, BadWoods, NoRoom
from hearths.fires import is_fire
from hearths.sayings import broken_ones, early_fire, is_ring_by, late_fire, ring_by
from tests.brute import fires_from, great_houses, moved, outward, random_woods, small_cases
from tests.test_fires import F, H, W
from tests.wrong import ALL, FIRES, NO_LISTS, ROOMS, WOODS, check_errors, in_turns, one_room, turned_dict, with_lists

GOOD = [("d", "c", 0, 0), ("a", "d", 4, None)]
BAD_ONES = ALL + [("a", "b"), ("a", "b", 1), ("a", "a", 0, 0), ("a", "x", 0, 1), ("x", "a", 0, 1), ("a", "b", 2, 1),
                  ("a", "b", True, 1), ("a", "b", 0, True), ("a", "b", "0", 1), ("a", "b", 0, 1, 2), (None, "b", 0, 1),
                  ("a", ["b"], 0, 1), ("a", "b", 0, [])]
BAD_SAYINGS = NO_LISTS + [([GOOD[0], thing, thing], 1) for thing in BAD_ONES] + [((GOOD[0], GOOD[0], None), 2)]


def keeps(fire, saying):
    one, other, least, most = saying
    hours = fire[other] - fire[one]
    return (least is None or least <= hours) and (most is None or hours <= most)


def all_keeping(house, woods, first, sayings):
    return [fire for fire in fires_from(house, woods, first) if all(keeps(fire, saying) for saying in sayings)]


def random_sayings(chance, house, woods, most=4, wide=3, wrong=0.15):
    """Sayings that are so of one fire, but for some, and that leave a few hours; some say nothing on a side."""
    if len(house) == 1:
        return []
    first = chance.choice(house.rooms())
    fire = {first: 0}
    for room, came in outward(house, first)[1:]:
        fire[room] = fire[came] + chance.randint(1, woods[came])
    sayings = []
    for _ in range(chance.randint(0, most)):
        one, other = chance.sample(house.rooms(), 2)
        hours = fire[other] - fire[one] + (chance.choice([-2, -1, 1, 2]) if chance.random() < wrong else 0)
        least, most_hours = hours - chance.randint(0, wide), hours + chance.randint(0, wide)
        sayings.append((one, other, None if chance.random() < 0.25 else least,
                        None if chance.random() < 0.25 else most_hours))
    return sayings


def steps_there_are(house, woods, first, sayings):
    """By the words of [55]."""
    steps = []
    for room, came in outward(house, first)[1:]:
        steps += [(came, room, woods[came]), (room, came, -1)]
    for one, other, least, most in sayings:
        steps += [(one, other, most)] if most is not None else []
        steps += [(other, one, -least)] if least is not None else []
    return steps


class Sayings(unittest.TestCase):
    """[53]"""

    def test_broken_ones(self):
        for chance, house, woods in small_cases(170, 60, 5):
            sayings = random_sayings(chance, house, woods, 5, 2)
            for first in house.rooms():
                for fire in fires_from(house, woods, first):
                    broken = [at for at, saying in enumerate(sayings) if not keeps(fire, saying)]
                    self.assertEqual(broken_ones(house, woods, sayings, moved(fire, -5)), broken)

    def test_either_side(self):
        for least, most, kept in ((None, None, True), (5, None, True), (6, None, False), (None, 5, True),
                                  (None, 4, False), (5, 5, True), (-9, 4, False)):
            self.assertEqual(broken_ones(H, W, [("a", "d", least, most)], F), [] if kept else [0])
        self.assertEqual(broken_ones(H, W, [("d", "a", -5, -5)], F), [])
        self.assertEqual(broken_ones(H, W, [], F), [])
        self.assertEqual(broken_ones(H, W, [("a", "b", 3, None)] * 3, F), [0, 1, 2])

    def test_errors(self):
        rows = [(1, BadWoods, WOODS), (2, BadSayings, BAD_SAYINGS), (3, BadFire, FIRES)]
        check_errors(self, broken_ones, (H, W, GOOD, F), rows)
        for call in (early_fire, late_fire, ring_by):
            check_errors(self, call, (H, W, "a", GOOD), [(1, BadWoods, WOODS), (2, NoRoom, ROOMS),
                                                         (3, BadSayings, BAD_SAYINGS)])
        check_errors(self, is_ring_by, (H, W, "a", GOOD, None), [(1, BadWoods, WOODS), (2, NoRoom, ROOMS),
                                                                 (3, BadSayings, BAD_SAYINGS)])


class EarlyAndLate(unittest.TestCase):
    """[54], [55]"""

    def test_small_houses(self):
        there = rings = 0
        for chance, house, woods in small_cases(171, 200, 5):
            sayings = random_sayings(chance, house, woods)
            for first in house.rooms():
                fires = all_keeping(house, woods, first, sayings)
                there, rings = there + bool(fires), rings + (not fires)
                self.check(house, woods, first, sayings, fires)
        self.assertTrue(there > 100 and rings > 100)

    def check(self, house, woods, first, sayings, fires):
        early, late = early_fire(house, woods, first, sayings), late_fire(house, woods, first, sayings)
        ring = ring_by(house, woods, first, sayings)
        self.assertEqual(ring is None, bool(fires))
        if fires:
            self.assertEqual(early, {room: min(fire[room] for fire in fires) for room in house.rooms()})
            self.assertEqual(late, {room: max(fire[room] for fire in fires) for room in house.rooms()})
            self.assertEqual((list(early), list(late)), (house.rooms(), house.rooms()))
        else:
            self.assertEqual((early, late), (None, None))
            self.check_ring(house, woods, first, sayings, ring)

    def check_ring(self, house, woods, first, sayings, ring):
        steps = steps_there_are(house, woods, first, sayings)
        self.assertTrue(all(isinstance(step, tuple) and step in steps for step in ring))
        self.assertEqual([step[1] for step in ring], [step[0] for step in ring[1:] + ring[:1]])
        self.assertEqual(len({step[0] for step in ring}), len(ring))
        self.assertLess(sum(step[2] for step in ring), 0)
        self.assertIs(is_ring_by(house, woods, first, sayings, ring), True)
        self.assertIs(is_ring_by(house, woods, first, sayings, with_lists(ring)), True)

    def test_none_said(self):
        for _, house, woods in small_cases(172, 20, 5):
            for first in house.rooms():
                self.check(house, woods, first, [], all_keeping(house, woods, first, []))

    def test_thirty_rooms(self):
        for number, house in enumerate(great_houses(30)):
            for most, wrong in ((4, 0), (999999999, 0), (4, 0.2)):
                chance = random.Random(number)
                woods = random_woods(chance, house, most)
                sayings = random_sayings(chance, house, woods, 30, 9, wrong)
                for first in house.rooms():
                    early, late = early_fire(house, woods, first, sayings), late_fire(house, woods, first, sayings)
                    ring = ring_by(house, woods, first, sayings)
                    self.assertTrue((early is None) != (ring is None))
                    if ring is None:
                        for fire in (early, late):
                            self.assertTrue(is_fire(house, woods, fire) and fire[first] == 0)
                            self.assertTrue(all(keeps(fire, saying) for saying in sayings))
                        self.assertTrue(all(early[room] <= late[room] for room in early))
                    else:
                        self.assertIsNone(late)
                        self.check_ring(house, woods, first, sayings, ring)


class Rings(unittest.TestCase):
    """[55]"""

    SAYINGS = GOOD + [("b", "c", None, 1)]
    RING = [("b", "c", 1), ("c", "d", 0), ("d", "a", -4), ("a", "b", 2)]

    def is_ring(self, thing):
        return is_ring_by(H, W, "a", self.SAYINGS, thing)

    def test_any_object(self):
        for thing in ALL + [[thing] for thing in ALL] + [self.RING + [thing] for thing in ALL]:
            self.assertIs(self.is_ring(thing), False)
        for turn in range(4):
            self.assertIs(self.is_ring(self.RING[turn:] + self.RING[:turn]), True)
        self.assertIs(self.is_ring(tuple(self.RING)), True)
        self.assertIs(self.is_ring([list(step) for step in self.RING]), True)

    def test_what_is_none(self):
        ring = self.RING
        for thing in (ring[:3], ring[::-1], ring + ring, ring + [("b", "c", 1), ("c", "b", -1)], [ring[0], ring[2]],
                      [("b", "c", 0)] + ring[1:], [("b", "c", True)] + ring[1:], [("b", "c", 1, 1)] + ring[1:],
                      [("a", "b", 2), ("b", "a", -1)], [("b", "a", -1), ("a", "b", 2)], [("d", "d", -1)],
                      [ring[0], ("c", "d", False)] + ring[2:], {step: 1 for step in ring}, "abc"):
            self.assertIs(self.is_ring(thing), False)
        for thing in ([(["a"], "b", 2)], [("a", ["b"], 2)], [(None, "b", 2)], [("a", {}, 2), ("b", "a", -1)], [],
                      [("c", "d", 0), ("d", "c", 0)], [("a", "b", [2])], [("a", "b", "2")]):
            self.assertIs(self.is_ring(thing), False)
        self.assertIs(is_ring_by(H, W, "a", GOOD, ring), False)
        self.assertIs(is_ring_by(H, dict(W, a=3), "a", self.SAYINGS, ring), False)
        self.assertIs(is_ring_by(H, W, "b", self.SAYINGS, ring), False)

    def test_rings_that_come_twice_through_a_room(self):
        sayings = [("a", "c", None, -1), ("c", "a", None, 0), ("a", "d", None, -1), ("d", "a", None, 0)]
        one, other = [("a", "c", -1), ("c", "a", 0)], [("a", "d", -1), ("d", "a", 0)]
        self.assertIs(is_ring_by(H, W, "b", sayings, one), True)
        self.assertIs(is_ring_by(H, W, "b", sayings, other), True)
        self.assertIs(is_ring_by(H, W, "b", sayings, one + other), False)

    def test_one_room(self):
        house = one_room()
        self.assertEqual(early_fire(house, {"a": 1}, "a", []), {"a": 0})
        self.assertEqual(late_fire(house, {"a": 1}, "a", []), {"a": 0})
        self.assertIsNone(ring_by(house, {"a": 1}, "a", []))
        self.assertIs(is_ring_by(house, {"a": 1}, "a", [], []), False)

    def test_example(self):
        """[64]"""
        self.assertEqual(early_fire(H, W, "a", GOOD), {"a": 0, "b": 1, "c": 4, "d": 4})
        self.assertEqual(late_fire(H, W, "a", GOOD), {"a": 0, "b": 2, "c": 5, "d": 5})
        self.assertTrue(self.is_ring([("b", "c", 1), ("c", "d", 0), ("d", "a", -4), ("a", "b", 2)]))
        self.assertIsNone(early_fire(H, W, "a", self.SAYINGS))

    def test_in_turns(self):
        in_turns(self, [lambda: ring_by(H, W, "a", self.SAYINGS),
                        lambda: ring_by(H, turned_dict(W), "a", with_lists(self.SAYINGS)),
                        lambda: early_fire(H, W, "a", GOOD), lambda: early_fire(H, dict(W, a=5), "a", self.SAYINGS),
                        lambda: late_fire(H, W, "a", GOOD), lambda: broken_ones(H, W, self.SAYINGS, F)])
        self.assertEqual(ring_by(H, W, "a", self.SAYINGS), ring_by(H, turned_dict(W), "a", with_lists(self.SAYINGS)))
        sayings, woods = [list(saying) for saying in self.SAYINGS], dict(W)
        self.assertIsNone(late_fire(H, woods, "a", sayings))
        sayings[2][3] = 2
        self.assertIsNotNone(late_fire(H, woods, "a", sayings))
        woods["a"] = 1
        self.assertIsNone(late_fire(H, woods, "a", sayings))


if __name__ == "__main__":
    unittest.main()
