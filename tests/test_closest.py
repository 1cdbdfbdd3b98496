import random
import unittest

from hearths.closest import ahead_word, bounds, follows, needless, row_by, sure_ahead
from hearths.errors import BadSaying, BadSayings, BadWoods, NoFire, NoRoom
from hearths.sayings import early_fire
from tests.brute import great_houses, random_woods, small_cases
from tests.test_fires import H, W
from tests.test_sayings import BAD_ONES, BAD_SAYINGS, GOOD, all_keeping, keeps, random_sayings, steps_there_are
from tests.test_ways import raised
from tests.wrong import ROOMS, WOODS, check_errors, in_turns, one_room, turned_dict, with_lists

CLASH = [("a", "b", 3, None)]


def check_row(test, row, steps, one, other, most):
    """A row of steps there are, from one to other, with so many hours together."""
    if one == other:
        test.assertEqual(row, [])
        return
    test.assertTrue(all(step in steps for step in row))
    test.assertEqual([step[0] for step in row] + [row[-1][1]], [one] + [step[1] for step in row])
    test.assertEqual((row[0][0], row[-1][1], sum(step[2] for step in row)), (one, other, most))


class Bounds(unittest.TestCase):
    """[56], [57]"""

    def test_small_houses(self):
        words = {"always": 0, "never": 0, "sometimes": 0}
        for chance, house, woods in small_cases(180, 150, 5):
            sayings = random_sayings(chance, house, woods, 3, 2, 0)
            for first in house.rooms():
                fires = all_keeping(house, woods, first, sayings)
                if fires:
                    self.check(house, woods, first, sayings, fires, words)
                else:
                    self.check_none(house, woods, first, sayings)
        self.assertTrue(all(many > 100 for many in words.values()))

    def check(self, house, woods, first, sayings, fires, words):
        steps = steps_there_are(house, woods, first, sayings)
        sure = []
        for one in house.rooms():
            for other in house.rooms():
                had = {fire[other] - fire[one] for fire in fires}
                self.assertEqual(bounds(house, woods, first, sayings, one, other), (min(had), max(had)))
                self.assertEqual(had, set(range(min(had), max(had) + 1)))
                check_row(self, row_by(house, woods, first, sayings, one, other), steps, one, other, max(had))
                word = "always" if min(had) > 0 else "never" if max(had) <= 0 else "sometimes"
                words[word] += 1
                self.assertEqual(ahead_word(house, woods, first, sayings, one, other), word)
                sure += [(one, other)] if word == "always" else []
        self.assertEqual(sure_ahead(house, woods, first, sayings), sure)

    def check_none(self, house, woods, first, sayings):
        two = (house, woods, first, sayings, first, house.rooms()[-1])
        for call in (bounds, row_by, ahead_word):
            raised(self, NoFire, call, *two)
            raised(self, NoFire, call, house, woods, first, sayings, first, first)
        for call in (sure_ahead, needless):
            raised(self, NoFire, call, house, woods, first, sayings)
        raised(self, NoFire, follows, house, woods, first, sayings, sayings[0])

    def test_rows_with_rings_of_no_hours(self):
        sayings = [("c", "d", 0, 0), ("d", "c", 0, 0), ("a", "c", 4, 4), ("b", "d", 2, 2)]
        steps = steps_there_are(H, W, "a", sayings)
        for one in H.rooms():
            for other in H.rooms():
                least, most = bounds(H, W, "a", sayings, one, other)
                self.assertEqual(least, most)
                check_row(self, row_by(H, W, "a", sayings, one, other), steps, one, other, most)

    def test_thirty_rooms(self):
        for number, house in enumerate(great_houses(30)):
            chance = random.Random(number)
            woods = random_woods(chance, house, 999999999 if number % 2 else 4)
            sayings = random_sayings(chance, house, woods, 30, 9, 0)
            first = next(room for room in house.rooms() if early_fire(house, woods, room, sayings))
            steps = steps_there_are(house, woods, first, sayings)
            pairs = sure_ahead(house, woods, first, sayings)
            self.assertEqual(pairs, sorted(set(pairs)))
            for _ in range(20):
                one, other = chance.choice(house.rooms()), chance.choice(house.rooms())
                least, most = bounds(house, woods, first, sayings, one, other)
                self.assertEqual((one, other) in pairs, least > 0)
                check_row(self, row_by(house, woods, first, sayings, one, other), steps, one, other, most)
                check_row(self, row_by(house, woods, first, sayings, other, one), steps, other, one, -least)
            for at in needless(house, woods, first, sayings):
                self.assertTrue(follows(house, woods, first, sayings[:at] + sayings[at + 1:], sayings[at]))

    def test_errors(self):
        rows = [(1, BadWoods, WOODS), (2, NoRoom, ROOMS), (3, BadSayings, BAD_SAYINGS)]
        two = rows + [(4, NoRoom, ROOMS), (5, NoRoom, ROOMS)]
        for call in (bounds, row_by, ahead_word):
            check_errors(self, call, (H, W, "a", GOOD, "b", "c"), two)
            self.assertEqual(raised(self, NoRoom, call, H, W, "a", CLASH, "b", "x").thing, "x")
            raised(self, NoFire, call, H, W, "a", CLASH, "b", "c")
        for call in (sure_ahead, needless):
            check_errors(self, call, (H, W, "a", GOOD), rows)
            raised(self, NoFire, call, H, W, "a", CLASH)
        check_errors(self, follows, (H, W, "a", GOOD, GOOD[0]), rows + [(4, BadSaying, BAD_ONES)])
        self.assertEqual(raised(self, BadSaying, follows, H, W, "a", CLASH, None).thing, None)
        raised(self, NoFire, follows, H, W, "a", CLASH, CLASH[0])


class Follows(unittest.TestCase):
    """[58]"""

    def test_small_houses(self):
        seen = {True: 0, False: 0}
        for chance, house, woods in small_cases(181, 120, 5):
            if len(house) == 1:
                continue
            sayings = random_sayings(chance, house, woods, 4, 2, 0)
            for first in house.rooms():
                fires = all_keeping(house, woods, first, sayings)
                if not fires:
                    continue
                for further in random_sayings(chance, house, woods, 6, 3, 0) + sayings:
                    kept = all(keeps(fire, further) for fire in fires)
                    seen[kept] += 1
                    self.assertIs(follows(house, woods, first, sayings, further), kept)
                    self.assertIs(follows(house, woods, first, with_lists(sayings), list(further)), kept)
                alone = []
                for at, saying in enumerate(sayings):
                    others = all_keeping(house, woods, first, sayings[:at] + sayings[at + 1:])
                    alone += [at] if all(keeps(fire, saying) for fire in others) else []
                self.assertEqual(needless(house, woods, first, sayings), alone)
        self.assertTrue(min(seen.values()) > 50)

    def test_alike_sayings(self):
        self.assertEqual(needless(H, W, "a", GOOD), [])
        self.assertEqual(needless(H, W, "a", GOOD + GOOD), [0, 1, 2, 3])
        self.assertEqual(needless(H, W, "a", GOOD + [("a", "b", None, None), ("b", "a", None, 0)]), [2, 3])
        self.assertEqual(needless(H, W, "a", []), [])

    def test_one_room(self):
        house = one_room()
        self.assertEqual(bounds(house, {"a": 1}, "a", [], "a", "a"), (0, 0))
        self.assertEqual(row_by(house, {"a": 1}, "a", [], "a", "a"), [])
        self.assertEqual(ahead_word(house, {"a": 1}, "a", [], "a", "a"), "never")
        self.assertEqual(sure_ahead(house, {"a": 1}, "a", []), [])
        self.assertEqual(raised(self, BadSaying, follows, house, {"a": 1}, "a", [], ("a", "a", 0, 0)).thing,
                         ("a", "a", 0, 0))

    def test_example(self):
        """[64]"""
        self.assertEqual(bounds(H, W, "a", GOOD, "b", "c"), (2, 3))
        self.assertEqual(ahead_word(H, W, "a", GOOD[1:], "c", "d"), "sometimes")

    def test_in_turns(self):
        other = [("a", "c", 2, 2)]
        in_turns(self, [lambda: row_by(H, W, "a", GOOD, "a", "d"), lambda: sure_ahead(H, W, "a", GOOD),
                        lambda: row_by(H, turned_dict(W), "a", with_lists(GOOD), "a", "d"),
                        lambda: sure_ahead(H, W, "a", other), lambda: row_by(H, dict(W, b=9), "a", other, "a", "d"),
                        lambda: needless(H, W, "a", GOOD + GOOD)])
        sayings = [list(saying) for saying in GOOD]
        self.assertEqual(bounds(H, W, "a", sayings, "b", "c"), (2, 3))
        sayings[1][2] = 5
        self.assertEqual(bounds(H, W, "a", sayings, "b", "c"), (3, 3))


if __name__ == "__main__":
    unittest.main()
