import random
import unittest

from hearths.errors import BadWatchers, BadWoods
from hearths.fires import first_of, is_fire
from hearths.slacks import slack
from hearths.telling import can_be_spared, doubtful_doors, doubtful_fires, tell_first
from tests.brute import all_fires, great_houses, house_of, random_woods, small_cases, ways_on
from tests.test_fires import H, W
from tests.test_slacks import look, random_watchers
from tests.test_twohours import H6, W6
from tests.wrong import SOME, WOODS, check_errors, in_turns, one_room, turned_dict


def tell_by_fires(fires, watchers):
    """Whether no two of all fires that look alike have unlike first rooms."""
    firsts = {}
    for first, fire in fires:
        firsts.setdefault(look(fire, watchers), set()).add(first)
    return all(len(some) == 1 for some in firsts.values())


class Telling(unittest.TestCase):
    """[94]"""

    def test_small_houses(self):
        seen = {True: 0, False: 0}
        for chance, house, woods in small_cases(300, 150, 5, 3):
            fires = all_fires(house, woods)
            leaves = [room for room in house.rooms() if len(ways_on(house, room)) < 2]
            for watchers in (random_watchers(chance, house), leaves, house.rooms()[::-1]):
                told = tell_by_fires(fires, watchers)
                seen[told] += 1
                self.assertIs(tell_first(house, woods, watchers), told)
                self.check_fires(house, woods, watchers, told)
                self.check_doors(house, woods, watchers)
                self.check_spared(house, woods, watchers, fires)
        self.assertTrue(min(seen.values()) > 60)

    def check_fires(self, house, woods, watchers, told):
        fires = doubtful_fires(house, woods, watchers)
        self.assertEqual(fires is None, told)
        self.assertEqual(doubtful_fires(house, woods, tuple(sorted(watchers))), fires)
        if fires is not None:
            self.assertIsInstance(fires, tuple)
            firsts = [first_of(house, woods, fire) for fire in fires]
            self.assertIn(firsts[1], ways_on(house, firsts[0]))
            self.assertTrue(all(fires[0][room] == fires[1][room] for room in watchers))
            self.assertEqual([list(fire) for fire in fires], [house.rooms(), house.rooms()])

    def check_doors(self, house, woods, watchers):
        doors = []
        for one, other in house.doors():
            slacks = [slack(house, woods, watchers, one, [other]), slack(house, woods, watchers, other, [one])]
            if None in slacks or sum(slacks) > 1:
                doors.append((one, other))
        told = doubtful_doors(house, woods, watchers)
        self.assertEqual(told, doors)
        self.assertEqual(doubtful_doors(house, woods, watchers[::-1]), doors)
        self.assertTrue(all(isinstance(door, tuple) for door in told))
        self.assertEqual(told == [], tell_first(house, woods, watchers))

    def check_spared(self, house, woods, watchers, fires):
        spared = [room for room in sorted(watchers)
                  if tell_by_fires(fires, [other for other in watchers if other != room])]
        self.assertEqual(can_be_spared(house, woods, watchers), spared)
        self.assertEqual(can_be_spared(house, woods, tuple(sorted(watchers))), spared)

    def test_edges(self):
        self.assertIs(tell_first(one_room(), {"a": 3}, []), True)
        self.assertIsNone(doubtful_fires(one_room(), {"a": 3}, []))
        self.assertEqual(can_be_spared(one_room(), {"a": 3}, ["a"]), ["a"])
        two = house_of("ab")
        self.assertEqual(doubtful_doors(two, {"a": 1, "b": 1}, ["a"]), [("a", "b")])
        self.assertIs(tell_first(two, {"a": 1, "b": 1}, ["b", "a"]), True)
        row = house_of("ab bc cd")
        self.assertIs(tell_first(row, {room: 1 for room in "abcd"}, ["d", "a"]), True)
        self.assertEqual(doubtful_doors(row, {"a": 1, "b": 2, "c": 1, "d": 1}, ["d", "a"]), [])
        self.assertEqual(doubtful_doors(row, {"a": 1, "b": 2, "c": 2, "d": 1}, ["d", "a"]), row.doors())
        self.assertEqual(doubtful_doors(row, {"a": 1, "b": 2, "c": 2, "d": 1}, ["b", "d", "a"]), [])
        self.assertEqual(doubtful_doors(row, {"a": 1, "b": 2, "c": 3, "d": 1}, ["b", "d", "a"]), [("b", "c"), ("c", "d")])

    def test_sixty_rooms(self):
        for number, house in enumerate(great_houses()):
            for most in (2, 3, 999999999):
                chance = random.Random(number)
                woods = random_woods(chance, house, most)
                for some in (house.rooms(), chance.sample(house.rooms(), 50)):
                    doors = doubtful_doors(house, woods, some)
                    self.assertEqual(tell_first(house, woods, some), not doors)
                    fires = doubtful_fires(house, woods, some)
                    self.assertEqual(fires is None, not doors)
                    for fire in fires or ():
                        self.assertTrue(is_fire(house, woods, fire))
                    spared = can_be_spared(house, woods, some)
                    for room in some[:5]:
                        self.assertEqual(room in spared,
                                         tell_first(house, woods, [other for other in some if other != room]))

    def test_errors(self):
        for call in (tell_first, doubtful_fires, doubtful_doors, can_be_spared):
            check_errors(self, call, (H, W, ["a"]), [(1, BadWoods, WOODS), (2, BadWatchers, SOME)])

    def test_example(self):
        """[98]"""
        self.assertEqual(doubtful_doors(H6, W6, ["a", "b", "c", "x", "y"]), [("d", "y")])

    def test_in_turns(self):
        some = ["a", "b", "c", "x", "y"]
        in_turns(self, [lambda: doubtful_doors(H6, W6, some), lambda: doubtful_fires(H6, W6, some),
                        lambda: doubtful_doors(H6, dict(W6, x=1), ["a", "d"]),
                        lambda: doubtful_fires(H6, turned_dict(W6), some[::-1]),
                        lambda: can_be_spared(H6, W6, H6.rooms()), lambda: can_be_spared(H, W, H.rooms())])
        woods, watchers = dict(W), ["a", "c", "d"]
        self.assertIs(tell_first(H, woods, watchers), False)
        woods["b"] = 2
        self.assertIs(tell_first(H, woods, watchers), True)
        watchers.remove("d")
        self.assertIs(tell_first(H, woods, watchers), False)
        self.assertEqual(watchers, ["a", "c"])


if __name__ == "__main__":
    unittest.main()
