import itertools
import unittest

from hearths.errors import BadName, BadNames, BadSome, CommonRoom, NoRoom, NotJoined
from hearths.houses import House
from hearths.otherhouses import built_on, joined_by, part_of, renamed
from tests.brute import house_of, path, row_house, sample_of_objects, small_cases
from tests.test_ways import raised

H = house_of("ab bc bd")


class OtherHouses(unittest.TestCase):
    """[13]"""

    def test_part_of(self):
        self.assertEqual(part_of(H, ["d", "b"]), House(["b", "d"], [("b", "d")]))
        self.assertEqual(part_of(H, ("a",)), House(["a"], []))
        self.assertEqual(part_of(H, H.rooms()), H)
        for _, house, _ in small_cases(12, 15, 6):
            for many in range(1, len(house) + 1):
                for some in itertools.combinations(house.rooms()[::-1], many):
                    self.check_part(house, list(some))

    def check_part(self, house, some):
        apart = [room for room in sorted(some) if not set(path(house, min(some), room)) <= set(some)]
        if apart:
            self.assertEqual(raised(self, NotJoined, part_of, house, some).room, apart[0])
        else:
            doors = [door for door in house.doors() if set(door) <= set(some)]
            self.assertEqual(part_of(house, some), House(some, doors))

    def test_part_of_errors(self):
        for thing in sample_of_objects(H):
            self.assertEqual(raised(self, BadSome, part_of, H, ["a", "c", thing]).index, 2)
        for thing in ([], (), None, "abcd", {"a": 1}, H):
            self.assertEqual(raised(self, BadSome, part_of, H, thing).index, 0)
        self.assertEqual(raised(self, BadSome, part_of, H, ["a", "c", "a"]).index, 2)

    def test_built_on(self):
        self.assertEqual(built_on(H, "d", "a9"), House(
            ["a", "b", "c", "d", "a9"], [("a", "b"), ("b", "c"), ("b", "d"), ("d", "a9")]))
        self.assertEqual(len(H), 4)
        for thing in sample_of_objects(H):
            self.assertIs(raised(self, NoRoom, built_on, H, thing, None).thing, thing)
            if thing != "zz":
                self.assertIs(raised(self, BadName, built_on, H, "a", thing).thing, thing)
        for name in ("a", "d"):
            self.assertEqual(raised(self, BadName, built_on, H, "a", name).thing, name)

    def test_joined_by(self):
        far = house_of("xy yz")
        joint = joined_by(H, far, "c", "x")
        self.assertEqual(joint.doors(), [("a", "b"), ("b", "c"), ("b", "d"), ("c", "x"), ("x", "y"), ("y", "z")])
        self.assertEqual(joined_by(far, H, "x", "c"), joint)
        for thing in sample_of_objects(H):
            self.assertIs(raised(self, NoRoom, joined_by, H, far, thing, "zy").thing, thing)
            self.assertIs(raised(self, NoRoom, joined_by, H, far, "a", thing).thing, thing)
        self.assertEqual(raised(self, NoRoom, joined_by, H, far, "x", "a").thing, "x")
        self.assertEqual(raised(self, NoRoom, joined_by, H, far, "a", "b").thing, "b")
        common = house_of("wd dc")
        self.assertEqual(raised(self, CommonRoom, joined_by, H, common, "a", "w").name, "c")
        self.assertEqual(raised(self, NoRoom, joined_by, H, common, "a", "q").thing, "q")

    def test_renamed(self):
        names = {"d": "a", "c": "b", "b": "x1", "a": "c"}
        self.assertEqual(renamed(H, names), House(["a", "b", "c", "x1"], [("c", "x1"), ("x1", "b"), ("x1", "a")]))
        self.assertEqual(names, {"d": "a", "c": "b", "b": "x1", "a": "c"})
        same = {room: room for room in H.rooms()}
        bad = [dict(same, a="b"), dict(same, a="A"), dict(same, a=None), dict(same, a=[]), dict(same, e="e"),
               {"a": "a", "b": "b", "c": "c"}, {"a": "a", "b": "b", "c": "c", "x": "d"}]
        for thing in bad + sample_of_objects(H):
            self.assertIs(raised(self, BadNames, renamed, H, thing).thing, thing)

    def test_sixty_rooms(self):
        house = row_house(60)
        self.assertEqual(part_of(house, house.rooms()[:30]).rooms(), house.rooms()[:30])
        other = renamed(house, {room: "m" + room[1:] for room in house.rooms()})
        self.assertEqual(len(joined_by(house, other, "n59", "m00")), 120)


if __name__ == "__main__":
    unittest.main()
