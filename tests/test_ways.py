import itertools
import unittest

from hearths.errors import BadSome, NoDoor, NoRoom
from hearths.ways import behind, least_way, meeting, way
from tests.brute import great_houses, house_of, path, sample_of_objects, small_cases, ways_on

H = house_of("ab bc bd")


def raised(test, kind, call, *things):
    with test.assertRaises(kind) as caught:
        call(*things)
    test.assertIs(caught.exception.__class__, kind)
    return caught.exception


class Ways(unittest.TestCase):
    """[8]"""

    def test_way(self):
        self.assertEqual(way(H, "a", "d"), ["a", "b", "d"])
        self.assertEqual(way(H, "d", "a"), ["d", "b", "a"])
        self.assertEqual(way(H, "c", "c"), ["c"])
        for _, house, _ in small_cases(2, 30, 8):
            for one, other in itertools.product(house.rooms(), repeat=2):
                self.assertEqual(way(house, one, other), path(house, one, other))

    def test_meeting(self):
        self.assertEqual(meeting(H, "a", "c", "d"), "b")
        self.assertEqual(meeting(H, "a", "b", "d"), "b")
        self.assertEqual(meeting(H, "a", "a", "d"), "a")
        for _, house, _ in small_cases(3, 25, 7):
            for one, other, third in itertools.product(house.rooms(), repeat=3):
                common = set(path(house, one, other)) & set(path(house, one, third)) & set(path(house, other, third))
                self.assertEqual({meeting(house, one, other, third)}, common)

    def test_behind(self):
        self.assertEqual(behind(H, "a", "b"), ["b", "c", "d"])
        self.assertEqual(behind(H, "b", "a"), ["a"])
        for _, house, _ in small_cases(4, 30, 8):
            for room in house.rooms():
                for far in ways_on(house, room):
                    rooms = [other for other in house.rooms() if far in path(house, room, other)]
                    self.assertEqual(behind(house, room, far), rooms)

    def test_least_way(self):
        self.assertEqual(least_way(H, []), [])
        self.assertEqual(least_way(H, ()), [])
        self.assertEqual(least_way(H, ["b"]), ["b"])
        self.assertEqual(least_way(H, ["d", "a"]), ["a", "b", "d"])
        self.assertEqual(least_way(H, ("b", "d", "a")), ["a", "b", "d"])
        self.assertIsNone(least_way(H, ["a", "c", "d"]))
        for _, house, _ in small_cases(5, 25, 6):
            for many in range(len(house) + 1):
                for some in itertools.permutations(house.rooms(), many):
                    self.assertEqual(least_way(house, list(some)), self.shortest(house, some))

    def shortest(self, house, some):
        if not some:
            return []
        ways = [path(house, one, other) for one, other in itertools.product(house.rooms(), repeat=2) if one <= other]
        having = [rooms for rooms in ways if set(some) <= set(rooms)]
        return min(having, key=len) if having else None

    def test_fact_of_threes(self):
        for _, house, _ in small_cases(6, 20, 6):
            for many in range(3, len(house) + 1):
                for some in itertools.combinations(house.rooms(), many):
                    threes = all(meeting(house, *three) in three for three in itertools.combinations(some, 3))
                    self.assertEqual(least_way(house, some) is not None, threes)

    def test_great_houses(self):
        for house in great_houses():
            rooms = house.rooms()
            self.assertEqual(way(house, rooms[0], rooms[-1]), path(house, rooms[0], rooms[-1]))
            self.assertEqual(least_way(house, [rooms[-1], rooms[0]]), path(house, rooms[0], rooms[-1]))


class Errors(unittest.TestCase):
    """[7], [8]: NoRoom, NoDoor, BadSome"""

    def test_no_room(self):
        for thing in sample_of_objects(H):
            for call, things in ((way, (thing, "zy")), (way, ("a", thing)), (meeting, (thing, "zy", "zy")),
                                 (meeting, ("a", thing, "zy")), (meeting, ("a", "b", thing)),
                                 (behind, (thing, "zy")), (behind, ("a", thing))):
                self.assertIs(raised(self, NoRoom, call, H, *things).thing, thing)

    def test_no_door(self):
        for room, other in (("a", "c"), ("a", "a"), ("d", "c")):
            error = raised(self, NoDoor, behind, H, room, other)
            self.assertEqual((error.one, error.other), (room, other))

    def test_bad_some(self):
        for thing in sample_of_objects(H):
            self.assertEqual(raised(self, BadSome, least_way, H, ["c", thing, "c"]).index, 1)
        for thing in (None, 0, True, "ab", "a", {"a": 1}, H, len):
            self.assertEqual(raised(self, BadSome, least_way, H, thing).index, 0)
        self.assertEqual(raised(self, BadSome, least_way, H, ["a", "b", "a", "zz"]).index, 2)

    def test_told_new_and_passed_unchanged(self):
        some = ["d", "a"]
        for call, things in ((way, ("a", "d")), (least_way, (some,)), (behind, ("a", "b"))):
            call(H, *things).append("x")
            self.assertNotIn("x", call(H, *things))
        self.assertEqual(some, ["d", "a"])


if __name__ == "__main__":
    unittest.main()
