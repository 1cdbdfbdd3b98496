import itertools
import random
import unittest

from hearths import errors
from hearths.branches import Branch
from hearths.cottages import Cottage
from hearths.errors import BadAnswer, BadFire, BadLooker, BadWoods
from hearths.houses import House
from hearths.lookers import beat_looker, run_looker
from tests.brute import all_fires, house_of, moved, random_house, random_woods, small_cases
from tests.test_fires import F, H, W
from tests.test_ways import raised
from tests.wrong import FIRES, WOODS, check_errors, one_room

NO_LOOKERS = [0, 7, -1, 10 ** 30, True, False, "", "a", None, [], ["a"], (), ("first", "a"), {}, {"a": 1}, H,
              Branch(H, "a", W, {}), errors.HearthError(), BadAnswer("a"), errors.NoDoor("a", "b"),
              Cottage("a", 1)]


class Watching:
    """A looker that looks at some rooms in order and tells one, and keeps what it was handed."""

    def __init__(self, rooms, told):
        self.rooms = rooms
        self.told = told
        self.handed = []

    def __call__(self, pairs):
        self.handed.append(pairs)
        return self.rooms[len(pairs)] if len(pairs) < len(self.rooms) else self.told


def earliest_of_all(house):
    """A looker that looks at all rooms and so is always right."""
    def look(pairs):
        left = [room for room in house.rooms() if room not in [seen for seen, _ in pairs]]
        return left[0] if left else ("first", min(pairs, key=lambda pair: pair[1])[0])
    return look


class Looking(unittest.TestCase):
    """[96]"""

    def test_rooms_in_order(self):
        for chance, house, woods in small_cases(320, 60, 5, 3):
            first, fire = chance.choice(all_fires(house, woods))
            fire = moved(fire, chance.randint(-9, 9))
            for many in range(len(house) + 1):
                rooms = chance.sample(house.rooms(), many)
                told = chance.choice(house.rooms())
                looker = Watching(rooms, chance.choice([("first", told), ["first", told]]))
                self.assertEqual(run_looker(house, woods, fire, looker), (rooms, told))
                self.assertEqual(looker.handed, [[(room, fire[room]) for room in rooms[:at]] for at in range(many + 1)])
                self.assertTrue(all(isinstance(pair, tuple) for pairs in looker.handed for pair in pairs))
            self.assertEqual(run_looker(house, woods, fire, earliest_of_all(house)), (house.rooms(), first))

    def test_kinds_of_what_is_told(self):
        told = run_looker(H, W, F, Watching(["c", "a"], ("first", "d")))
        self.assertIsInstance(told, tuple)
        self.assertEqual(told, (["c", "a"], "d"))
        self.assertEqual(run_looker(H, W, F, lambda pairs: ("first", "c")), ([], "c"))
        self.assertEqual(run_looker(one_room(), {"a": 1}, {"a": 4}, Watching(["a"], ("first", "a"))), (["a"], "a"))

    def test_rooms_with_the_name_first(self):
        house = House(["first", "a"], [("a", "first")])
        fire = {"a": 1, "first": 0}
        self.assertEqual(run_looker(house, {"a": 1, "first": 1}, fire, Watching(["first"], ("first", "first"))),
                         (["first"], "first"))

    def test_new_lists(self):
        """what is handed may be changed by the looker: it does not reach what is told or handed later"""
        handed = []

        def spoiling(pairs):
            handed.append(list(pairs))
            many = len(pairs)
            pairs.append(("b", 99))
            pairs[0] = None
            return ["c", "d"][many] if many < 2 else ("first", "b")
        self.assertEqual(run_looker(H, W, F, spoiling), (["c", "d"], "b"))
        self.assertEqual(handed, [[], [("c", 7)], [("c", 7), ("d", 9)]])

    def test_the_dict_changed_by_the_looker(self):
        fire = dict(F)

        def changing(pairs):
            fire["a"] = 0
            return "a" if not pairs else ("first", "a") if pairs == [("a", 4)] else None
        self.assertEqual(run_looker(H, W, fire, changing), (["a"], "a"))

    def test_bad_answers(self):
        bad = [None, 0, True, "z", "", "A", [], (), {}, H, len, ["a"], ("a",), ("first",), ("first", "z"), ("last", "a"),
               ("first", None), ("first", ["a"]), ["first", "a", "b"], {"first": "a"}, ("first", "a", "b"), ["a", "b"],
               {"a": 1}, (["first"], "a"), (H, "a"), BadLooker(1)]
        for answer in bad:
            looker = Watching(["b", answer], ("first", "a"))
            self.assertIs(raised(self, BadAnswer, run_looker, H, W, F, looker).thing, answer)
            self.assertEqual(looker.handed, [[], [("b", 6)]])
            self.assertIs(raised(self, BadAnswer, run_looker, H, W, F, lambda pairs: answer).thing, answer)
            self.assertIs(raised(self, BadAnswer, beat_looker, H, W, lambda pairs: answer).thing, answer)
        looker = Watching(["b", "a", "b"], ("first", "a"))
        self.assertEqual(raised(self, BadAnswer, run_looker, H, W, F, looker).thing, "b")
        self.assertEqual(len(looker.handed), 3)
        looker = Watching(["b", "a", "c", "d", "a"], None)
        self.assertEqual(raised(self, BadAnswer, run_looker, H, W, F, looker).thing, "a")
        self.assertEqual(len(looker.handed), 5)

    def test_raising(self):
        for error in (KeyError("a"), BadAnswer("mine"), ZeroDivisionError()):
            def raising(pairs):
                if len(pairs) == 1:
                    raise error
                return "c"
            for call, things in ((run_looker, (H, W, F)), (beat_looker, (H, W))):
                with self.assertRaises(error.__class__) as caught:
                    call(*things, raising)
                self.assertIs(caught.exception, error)

    def test_errors(self):
        looker = earliest_of_all(H)
        check_errors(self, run_looker, (H, W, F, looker), [(1, BadWoods, WOODS), (2, BadFire, FIRES),
                                                           (3, BadLooker, NO_LOOKERS)])
        check_errors(self, beat_looker, (H, W, looker), [(1, BadWoods, WOODS), (2, BadLooker, NO_LOOKERS)])


class Beaten(unittest.TestCase):
    """[96]"""

    def test_against_all_fires(self):
        beaten = 0
        for chance, house, woods in small_cases(321, 120, 5, 3):
            fires = sorted(all_fires(house, woods), key=lambda pair: [pair[1][room] for room in house.rooms()])
            for looker in self.lookers(chance, house):
                wrong = [fire for first, fire in fires if run_looker(house, woods, fire, looker)[1] != first]
                told = beat_looker(house, woods, looker)
                self.assertEqual(told, wrong[0] if wrong else None)
                if wrong:
                    beaten += 1
                    self.assertEqual(list(told), house.rooms())
        self.assertTrue(beaten > 100)

    def lookers(self, chance, house):
        rooms = chance.sample(house.rooms(), chance.randint(0, len(house)))
        yield earliest_of_all(house)
        yield Watching(rooms, ("first", chance.choice(house.rooms())))

        def by_some(pairs):
            if len(pairs) < len(rooms):
                return rooms[len(pairs)]
            return ("first", min(pairs, key=lambda pair: pair[1])[0] if pairs else house.rooms()[-1])
        yield by_some

    def test_all_ahead_are_asked_once(self):
        """look by look, each fire up to the one that is told, in this order"""
        for _, house, woods in small_cases(322, 20, 4, 2):
            handed = []

            def looker(pairs):
                handed.append(list(pairs))
                return house.rooms()[len(pairs)] if len(pairs) < len(house) else ("first", house.rooms()[-1])
            told = beat_looker(house, woods, looker)
            rows = sorted([fire[room] for room in house.rooms()] for _, fire in all_fires(house, woods))
            if told is not None:
                rows = rows[:rows.index(list(told.values())) + 1]
            pairs = [list(zip(house.rooms(), row)) for row in rows]
            self.assertEqual(handed, [row[:many] for row in pairs for many in range(len(house) + 1)])

    def test_told_is_new(self):
        one = beat_looker(H, W, lambda pairs: ("first", "a"))
        self.assertEqual(one, {"a": 1, "b": 0, "c": 1, "d": 1})
        one.clear()
        self.assertEqual(beat_looker(H, W, lambda pairs: ("first", "a")), {"a": 1, "b": 0, "c": 1, "d": 1})

    def test_bad_answer_at_the_first_fire(self):
        seen = []

        def bad_later(pairs):
            seen.append(pairs)
            if len(pairs) < 4:
                return "abcd"[len(pairs)]
            return None if dict(pairs)["a"] == 1 else ("first", min(pairs, key=lambda pair: pair[1])[0])
        raised(self, BadAnswer, beat_looker, H, W, bad_later)
        ahead = [fire for _, fire in all_fires(H, W) if fire["a"] == 0]
        self.assertEqual(len(seen), 5 * len(ahead) + 5)

    def test_five_rooms(self):
        for seed in range(4):
            house = random_house(random.Random(seed), 5)
            woods = {room: 3 for room in house.rooms()}
            self.assertIsNone(beat_looker(house, woods, earliest_of_all(house)))
        self.assertIsNone(beat_looker(one_room(), {"a": 3}, lambda pairs: ("first", "a")))

    def test_in_turns(self):
        house, woods = house_of("ab bc"), {"a": 1, "b": 1, "c": 1}
        ends = Watching(["a", "c"], None)

        def by_ends(pairs):
            if len(pairs) < 2:
                return ends.rooms[len(pairs)]
            return ("first", "b" if pairs[0][1] == pairs[1][1] else min(pairs, key=lambda pair: pair[1])[0])
        self.assertIsNone(beat_looker(house, woods, by_ends))
        woods["b"] = 2
        self.assertEqual(beat_looker(house, woods, by_ends), {"a": 1, "b": 0, "c": 2})
        woods["b"] = 1
        self.assertIsNone(beat_looker(house, woods, by_ends))
        chance = random.Random(1)
        for _ in range(5):
            other = random_woods(chance, house, 3)
            for both in itertools.repeat((woods, other), 2):
                self.assertEqual([beat_looker(house, told, by_ends) is None for told in both], [True, other["b"] == 1])


if __name__ == "__main__":
    unittest.main()
