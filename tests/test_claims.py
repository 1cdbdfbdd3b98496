import itertools
import random
import unittest

from hearths.claimlists import can_all_be, claim_clash
from hearths.errors import BadClaims, BadWoods
from hearths.fires import is_fire
from hearths.houses import House
from hearths.mostclaims import always_false, always_right, fire_of_most, most_right, right_ones
from tests.brute import all_fires, great_houses, moved, row_house, sample_of_objects, small_cases
from tests.test_fires import BAD_WOODS, H, W
from tests.test_twohours import H6, W6
from tests.test_ways import raised

CALLS = (can_all_be, claim_clash, most_right, right_ones, fire_of_most, always_right, always_false)
CLAIMS6 = [("a", 0, 0), ("b", 3, 3), ("c", 2, 2), ("d", 0, 0)]


def random_claims(chance, house, many):
    claims = []
    for _ in range(many):
        least = chance.randint(-3, 4)
        claims.append((chance.choice(house.rooms()), least, least + chance.choice([0, 0, 1, 2])))
    return claims


def kept_sets(house, woods, claims):
    """The set of the tuples of indexes of the claims that fires, moved to wherever one may be had, have."""
    if not claims:
        return {()}
    kept = set()
    low, high = min(least for _, least, _ in claims), max(most for _, _, most in claims)
    for _, fire in all_fires(house, woods):
        for hour in range(low - max(fire.values()), high + 1):
            there = moved(fire, hour)
            kept.add(tuple(at for at, (room, least, most) in enumerate(claims) if least <= there[room] <= most))
    return kept


class Claims(unittest.TestCase):
    """[20], [21]"""

    def check(self, house, woods, claims):
        kept = kept_sets(house, woods, claims)
        self.assertIs(can_all_be(house, woods, claims), tuple(range(len(claims))) in kept)
        self.assertEqual(claim_clash(house, woods, claims), self.first_clash(kept, len(claims)))
        most = max(len(indexes) for indexes in kept)
        best = [indexes for indexes in kept if len(indexes) == most]
        self.assertEqual(most_right(house, woods, claims), most)
        self.assertIn(tuple(right_ones(house, woods, claims)), best)
        fire = fire_of_most(house, woods, claims)
        self.assertTrue(is_fire(house, woods, fire))
        self.assertEqual(list(fire), house.rooms())
        had = [at for at, (room, least, most) in enumerate(claims) if least <= fire[room] <= most]
        self.assertIn(tuple(had), best)
        everything = range(len(claims))
        self.assertEqual(always_right(house, woods, claims), [at for at in everything if all(at in i for i in best)])
        self.assertEqual(always_false(house, woods, claims), [at for at in everything if all(at not in i for i in best)])

    def first_clash(self, kept, many):
        for size in range(1, many + 1):
            for indexes in itertools.combinations(range(many), size):
                if not any(set(indexes) <= set(had) for had in kept):
                    self.assertTrue(2 <= size <= 4)
                    return list(indexes)
        return None

    def test_small_houses(self):
        for chance, house, woods in small_cases(50, 150, 5):
            self.check(house, woods, random_claims(chance, house, chance.randint(0, 7)))

    def test_sixes(self):
        for number in range(15):
            chance = random.Random(number)
            woods = {room: chance.randint(1, 3) for room in H6.rooms()}
            self.check(H6, woods, random_claims(chance, H6, 6))
        self.check(H6, W6, CLAIMS6)

    def test_one_room(self):
        house, woods = House(["a"], []), {"a": 5}
        self.check(house, woods, [("a", 0, 3), ("a", 2, 5), ("a", 3, 9), ("a", 5, 7), ("a", 3, 3)])
        self.check(house, woods, [("a", 0, 1), ("a", 2, 5)])
        self.check(house, woods, [("a", 4, 4), ("a", 4, 4), ("a", 6, 6)])

    def test_claims_of_nobody(self):
        self.assertIs(can_all_be(H, W, []), True)
        self.assertIsNone(claim_clash(H, W, ()))
        self.assertEqual(most_right(H, W, []), 0)
        self.assertEqual(right_ones(H, W, []), [])
        self.assertTrue(is_fire(H, W, fire_of_most(H, W, [])))
        self.assertEqual(always_right(H, W, []), [])
        self.assertEqual(always_false(H, W, []), [])

    def test_example(self):
        self.assertEqual(claim_clash(H6, W6, CLAIMS6), [0, 1, 2, 3])
        self.assertEqual(most_right(H6, W6, CLAIMS6), 3)
        self.assertEqual(always_right(H6, W6, CLAIMS6), [])
        self.assertEqual(always_false(H6, W6, CLAIMS6), [])

    def test_bad_claims(self):
        right = ("a", 0, 1)
        bad = [("a", 0), ("a", 0, 1, 2), ("a", 1, 0), ("e", 0, 1), ("a", True, 2), ("a", 0, None), ("a", "0", "1"),
               ["a"], "a01", {"a": 0, "b": 1, "c": 2}, (["a"], 0, 1), ("A", 0, 1)]
        for call in CALLS:
            for thing in bad + sample_of_objects(H):
                self.assertEqual(raised(self, BadClaims, call, H, W, [right, list(right), thing, None]).index, 2)
            for thing in (None, 0, True, "a", {"a": (0, 1)}, {}, H, len):
                self.assertEqual(raised(self, BadClaims, call, H, W, thing).index, 0)
            for thing in BAD_WOODS + sample_of_objects(H):
                self.assertIs(raised(self, BadWoods, call, H, thing, None).thing, thing)

    def test_lists_for_tuples_and_passed_unchanged(self):
        lists = [list(claim) for claim in CLAIMS6]
        for call in CALLS:
            told = call(H6, W6, CLAIMS6)
            self.assertEqual(call(H6, W6, lists), told)
            self.assertEqual(call(H6, W6, tuple(CLAIMS6)), told)
        self.assertEqual(lists, [list(claim) for claim in CLAIMS6])

    def test_told_new(self):
        told = right_ones(H6, W6, CLAIMS6)
        told.append(99)
        self.assertEqual(len(right_ones(H6, W6, CLAIMS6)), 3)
        fire_of_most(H6, W6, CLAIMS6).clear()
        self.assertEqual(len(fire_of_most(H6, W6, CLAIMS6)), 6)


class Great(unittest.TestCase):
    """[23]"""

    def test_forty_claims(self):
        for number, house in enumerate(great_houses()):
            chance = random.Random(number)
            woods = {room: chance.randint(1, 999999999) for room in house.rooms()}
            claims = []
            for _ in range(40):
                least = chance.randint(-999999999, 999999999)
                claims.append((chance.choice(house.rooms()), least, least + chance.randint(0, 9999999)))
            most, right = most_right(house, woods, claims), right_ones(house, woods, claims)
            self.assertEqual(len(right), most)
            self.assertTrue(can_all_be(house, woods, [claims[at] for at in right]))
            self.assertIs(can_all_be(house, woods, claims), most == 40)

    def test_twenty_claims(self):
        for number, house in enumerate(great_houses(30)):
            chance = random.Random(number)
            woods = {room: chance.randint(1, 4) for room in house.rooms()}
            claims = random_claims(chance, house, 20)
            clash = claim_clash(house, woods, claims)
            self.assertTrue((clash is None) == can_all_be(house, woods, claims))
            if clash is not None:
                self.assertFalse(can_all_be(house, woods, [claims[at] for at in clash]))
            right, most = right_ones(house, woods, claims), most_right(house, woods, claims)
            self.assertEqual(len(right), most)
            self.assertLessEqual(set(always_right(house, woods, claims)), set(right))
            self.assertFalse(set(always_false(house, woods, claims)) & set(right))

    def test_no_clash_of_twenty(self):
        house = row_house(30)
        woods = {room: 3 for room in house.rooms()}
        claims = [(room, 2 * at, 2 * at + 1) for at, room in enumerate(house.rooms())][:20]
        self.assertIsNone(claim_clash(house, woods, claims))
        self.assertEqual(most_right(house, woods, claims), 20)
        self.assertEqual(always_right(house, woods, claims), list(range(20)))


if __name__ == "__main__":
    unittest.main()
