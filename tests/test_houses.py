import itertools
import unittest

from hearths.errors import BadDoors, BadRooms, NoRoom, NotJoined
from hearths.houses import House, beside
from tests.brute import house_of, random_house, row_house, sample_of_objects, small_cases, star_house, ways_on


class Building(unittest.TestCase):
    """[7], [3]"""

    def wrong(self, kind, part, told, rooms, doors):
        with self.assertRaises(kind) as caught:
            House(rooms, doors)
        self.assertEqual(getattr(caught.exception, part), told)

    def test_ordinary(self):
        house = House(["c", "a", "d", "b"], [("d", "b"), ("b", "a"), ("b", "c")])
        self.assertEqual(house.rooms(), ["a", "b", "c", "d"])
        self.assertEqual(house.doors(), [("a", "b"), ("b", "c"), ("b", "d")])
        self.assertEqual(len(house), 4)

    def test_one_room(self):
        house = House(["only"], [])
        self.assertEqual((house.rooms(), house.doors(), len(house)), (["only"], [], 1))
        self.assertEqual(beside(house, "only"), [])

    def test_lists_for_tuples_and_tuples_for_lists(self):
        house = House(("a", "b", "c"), (["c", "b"], ["a", "b"]))
        self.assertEqual(house, House(["a", "b", "c"], [("a", "b"), ("b", "c")]))
        self.assertEqual(house.doors(), [("a", "b"), ("b", "c")])
        self.assertTrue(all(isinstance(door, tuple) for door in house.doors()))

    def test_names(self):
        for name in ("a", "z", "a0", "abcdefghijkl", "z99999999999"):
            self.assertEqual(House([name], []).rooms(), [name])
        for name in ("", "A", "0a", "9", "abcdefghijklm", "a_b", "a b", "aB", "\u00e4", "a\u0663", "a\n", " a"):
            self.wrong(BadRooms, "index", 0, [name], [])
            self.wrong(BadRooms, "index", 1, ["a", name], [])

    def test_bad_rooms_of_any_objects(self):
        for thing in sample_of_objects(House(["q"], [])):
            if thing != "zz":
                self.wrong(BadRooms, "index", 2, ["a", "b", thing, "b"], None)
        for thing in (None, 0, True, "a", {"a": 1}, [], (), House(["q"], []), len):
            self.wrong(BadRooms, "index", 0, thing, [("a", "b")])

    def test_bad_rooms_stood_before(self):
        self.wrong(BadRooms, "index", 2, ["a", "b", "a", "B"], [])
        self.wrong(BadRooms, "index", 1, ["a", "a"], 5)

    def test_bad_doors_of_any_objects(self):
        rooms = ["a", "b", "c"]
        for thing in sample_of_objects(House(["q"], [])) + [
                ("a",), ("a", "b", "c"), ("a", "a"), ("a", "zz"), ("zz", "a"), (["a"], "b"), ("a", None),
                ("a", {}), "ab", {"a": 1, "b": 2}, ["a", ("b",)], ("a", "A")]:
            self.wrong(BadDoors, "index", 1, rooms, [("a", "b"), thing])
        for thing in (None, 0, True, "ab", {"a": "b"}, House(["q"], []), len):
            self.wrong(BadDoors, "index", 0, rooms, thing)
            self.wrong(BadDoors, "index", 0, ["a"], thing)

    def test_rings(self):
        rooms = ["a", "b", "c", "d"]
        self.wrong(BadDoors, "index", 1, rooms, [("a", "b"), ("b", "a")])
        self.wrong(BadDoors, "index", 1, rooms, [("a", "b"), ("a", "b"), None])
        self.wrong(BadDoors, "index", 2, rooms, [("a", "b"), ("b", "c"), ("c", "a")])
        self.wrong(BadDoors, "index", 3, rooms, [("a", "b"), ("c", "d"), ("b", "c"), ("d", "a")])

    def test_all_lists_of_doors_of_four_rooms(self):
        rooms = ["a", "b", "c", "d"]
        pairs = list(itertools.combinations(rooms, 2))
        for many in range(5):
            for doors in itertools.permutations(pairs, many):
                self.check_doors(rooms, doors)

    def check_doors(self, rooms, doors):
        groups = {room: {room} for room in rooms}
        for at, (one, other) in enumerate(doors):
            if other in groups[one]:
                self.wrong(BadDoors, "index", at, rooms, doors)
                return
            joint = groups[one] | groups[other]
            for room in joint:
                groups[room] = joint
        apart = [room for room in rooms if room not in groups["a"]]
        if apart:
            self.wrong(NotJoined, "room", apart[0], rooms[::-1], doors)
        else:
            self.assertEqual(House(rooms, doors).doors(), sorted(doors))

    def test_order_of_errors(self):
        self.wrong(BadRooms, "index", 1, ["a", "A"], None)
        self.wrong(BadDoors, "index", 1, ["a", "b", "c"], [("a", "b"), ("b", "a")])
        self.wrong(NotJoined, "room", "b", ["c", "b", "a"], [("a", "c")])
        self.wrong(NotJoined, "room", "b", ["b", "a"], [])

    def test_equal(self):
        house = House(["a", "b", "c"], [("a", "b"), ("b", "c")])
        self.assertTrue(house == House(["c", "b", "a"], [("c", "b"), ("b", "a")]))
        self.assertFalse(house != House(["c", "b", "a"], [("c", "b"), ("b", "a")]))
        self.assertFalse(house == House(["a", "b", "c"], [("a", "c"), ("b", "c")]))
        self.assertFalse(house == House(["a", "b", "d"], [("a", "b"), ("b", "d")]))
        self.assertTrue(house != House(["a", "b"], [("a", "b")]))
        self.assertFalse(House(["a"], []) == House(["b"], []))
        self.assertTrue(House(["a"], []) == House(("a",), ()))
        for thing in sample_of_objects(House(["a"], [])) + [house.rooms(), house.doors()]:
            self.assertFalse(house == thing)
            self.assertTrue(house != thing)

    def test_never_changes(self):
        rooms, doors = ["b", "a", "c"], [["a", "b"], ["b", "c"]]
        house = House(rooms, doors)
        self.assertEqual((rooms, doors), (["b", "a", "c"], [["a", "b"], ["b", "c"]]))
        rooms.append("d")
        doors[0][0] = "c"
        doors.clear()
        for told in (house.rooms(), house.doors(), beside(house, "b")):
            told.append("x")
        self.assertEqual(house.rooms(), ["a", "b", "c"])
        self.assertEqual(house.doors(), [("a", "b"), ("b", "c")])
        self.assertEqual(beside(house, "b"), ["a", "c"])

    def test_great_houses(self):
        for many in (60, 75):
            self.assertEqual(len(row_house(many)), many)
            star = star_house(many)
            self.assertEqual(len(beside(star, star.rooms()[many // 2])), many - 1)


class Beside(unittest.TestCase):
    def test_small_houses(self):
        for _, house, _ in small_cases(1, 40, 8):
            for room in house.rooms():
                self.assertEqual(beside(house, room), sorted(ways_on(house, room)))

    def test_no_room(self):
        house = house_of("ab bc bd")
        for thing in sample_of_objects(house):
            with self.assertRaises(NoRoom) as caught:
                beside(house, thing)
            self.assertIs(caught.exception.thing, thing)

    def test_random_houses_are_such(self):
        import random
        for seed in range(20):
            house = random_house(random.Random(seed), 9)
            self.assertEqual(len(house.doors()), 8)


if __name__ == "__main__":
    unittest.main()
