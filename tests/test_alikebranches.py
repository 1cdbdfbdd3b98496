import random
import unittest

from hearths.alikebranches import closed_branch, have_fire, is_parting, meeting_hours, parting_hours, told_branch
from hearths.branches import Branch, comes_in, goes_out, hung
from hearths.builtfires import fire_for
from hearths.errors import BadBranch, BadTold, CommonRoom
from hearths.houses import House
from hearths.otherhouses import joined_by, renamed
from tests.brute import all_fitting, great_houses, house_of, path, random_woods, small_cases, stretches_of
from tests.test_branches import B, NO_BRANCHES, RS, W_RS, parts, random_branch
from tests.test_fittings import fire_of
from tests.test_ways import raised
from tests.wrong import ALL, INTEGERS, check_errors, in_turns

MORE = Branch(RS, "r", {"r": 2, "s": 1}, {"s": 5})


def far_branch(branch):
    """The same branch with other names."""
    house, rim, woods, book = parts(branch)
    names = {room: f"far{room}" for room in house.rooms()}
    return Branch(renamed(house, names), names[rim], {names[room]: woods[room] for room in woods},
                  {names[room]: book[room] for room in book})


def fire_around(branch, near, far):
    """Whether some fire has all with two rooms around, noted at near and far, both with wood for 1 hour."""
    around = Branch(House(["near", "far"], [("near", "far")]), "near", {"near": 1, "far": 1},
                    {"near": near, "far": far})
    house, _, woods, book = parts(hung(around, "near", far_branch(branch)))
    return bool(all_fitting(house, woods, book))


class Joined(unittest.TestCase):
    """[88]"""

    def test_small_branches(self):
        seen = {}
        for chance, _, _ in small_cases(280, 300):
            one, other = random_branch(chance, 3, 2, 0.05, "abcd"), random_branch(chance, 3, 2, 0.05, "efgh")
            if not one.book() and not other.book():
                continue
            house = joined_by(one.house(), other.house(), one.rim(), other.rim())
            woods, book = dict(one.woods(), **other.woods()), dict(one.book(), **other.book())
            fires = all_fitting(house, woods, book)
            there = [fire[other.rim()] for first, fire in fires if one.rim() in path(house, first, other.rim())]
            back = [fire[one.rim()] for first, fire in fires if other.rim() in path(house, first, one.rim())]
            told = meeting_hours(one, other)
            self.assertIsInstance(told, tuple)
            self.assertEqual(told, (stretches_of(there), stretches_of(back)))
            self.assertEqual(meeting_hours(other, one), (told[1], told[0]))
            self.assertIs(have_fire(one, other), bool(fires))
            kind = (bool(there), bool(back))
            seen[kind] = seen.get(kind, 0) + 1
        self.assertTrue(all(seen.get((one, other), 0) > 20 for one in (True, False) for other in (True, False)))

    def test_empty_books(self):
        one, other = Branch(RS, "r", W_RS, {}), Branch(house_of("xy"), "y", {"x": 1, "y": 1}, {})
        self.assertEqual(meeting_hours(one, other), ([(None, None)], [(None, None)]))
        self.assertIs(have_fire(one, other), True)
        noted = Branch(house_of("xy"), "y", {"x": 1, "y": 2}, {"x": 3})
        self.assertEqual(meeting_hours(one, noted), ([(1, 2)], [(2, 6)]))
        clash = Branch(house_of("xy"), "y", {"x": 1, "y": 2}, {"x": 3, "y": 9})
        self.assertEqual(meeting_hours(one, clash), ([], []))
        self.assertIs(have_fire(clash, one), False)

    def test_errors(self):
        other = Branch(house_of("xy"), "y", {"x": 1, "y": 1}, {})
        for call in (meeting_hours, have_fire):
            check_errors(self, call, (B, other), [(0, BadBranch, NO_BRANCHES), (1, BadBranch, NO_BRANCHES)])
            self.assertEqual(raised(self, CommonRoom, call, B, Branch(house_of("as"), "a", {"a": 1, "s": 1}, {})).name,
                             "s")
            self.assertEqual(raised(self, CommonRoom, call, B, B).name, "r")

    def test_example(self):
        """[91]"""
        last = Branch(House(["x"], []), "x", {"x": 1}, {"x": 7})
        self.assertEqual(meeting_hours(B, last), ([(7, 7)], []))
        self.assertIs(have_fire(B, last), True)


class Alike(unittest.TestCase):
    """[89]"""

    def test_small_branches(self):
        alike = apart = 0
        for chance, _, _ in small_cases(281, 250):
            one, other = random_branch(chance, 3, 2, 0.1), random_branch(chance, 3, 2, 0.1)
            if chance.random() < 0.3:
                other = told_like(one) or other
            pair = parting_hours(one, other)
            same = comes_in(one) == comes_in(other) and goes_out(one) == goes_out(other)
            self.assertEqual(pair is None, same)
            if pair is None:
                alike += 1
                self.check_alike(chance, one, other)
            else:
                apart += 1
                self.assertIsInstance(pair, tuple)
                self.assertNotEqual(fire_around(one, *pair), fire_around(other, *pair))
                self.assertIs(is_parting(one, other, pair), True)
                self.assertIs(is_parting(other, one, list(pair)), True)
            for _ in range(6):
                near = chance.randint(-8, 8)
                far = near + chance.choice([-2, -1, -1, 0, 1, 1, 2])
                parted = fire_around(one, near, far) != fire_around(other, near, far)
                self.assertIs(is_parting(one, other, (near, far)), parted)
                self.assertFalse(same and parted)
        self.assertTrue(alike > 20 and apart > 100)

    def check_alike(self, chance, one, other):
        """Whatever is around: by all fires of a house with the one and with the other."""
        for _ in range(4):
            around = random_branch(chance, 3, 2, 0.1, "uvwxyz")
            answers = []
            for branch in (far_branch(one), far_branch(other)):
                house = joined_by(around.house(), branch.house(), around.rim(), branch.rim())
                woods, book = dict(around.woods(), **branch.woods()), dict(around.book(), **branch.book())
                answers.append(fire_for(house, woods, book) is not None)
            self.assertEqual(answers[0], answers[1])

    def test_parting_of_great_hours(self):
        one, other = told_branch(-999999, 5, 999998), told_branch(-999999, 5, 999999)
        pair = parting_hours(one, other)
        self.assertIs(is_parting(one, other, pair), True)
        self.assertEqual(pair, (999999, 1000000))
        for branch, far in ((Branch(RS, "r", W_RS, {}), one), (one, closed_branch(0, 5)),
                            (Branch(RS, "r", W_RS, {}), closed_branch(0, 5)), (closed_branch(0, 4), closed_branch(0, 5)),
                            (closed_branch(0, 4), Branch(RS, "r", W_RS, {"r": 0, "s": 9}))):
            for first, second in ((branch, far), (far, branch)):
                self.assertIs(is_parting(first, second, parting_hours(first, second)), True)
                self.assertIsNone(parting_hours(first, first))

    def test_any_object(self):
        pair = parting_hours(B, MORE)
        self.assertIs(is_parting(B, MORE, pair), True)
        for thing in ALL + [[thing, thing] for thing in ALL] + [pair + (0,), pair[:1], {pair[0]: 1, pair[1]: 2},
                                                                [True, False], [2, True], (2, None)]:
            self.assertIs(is_parting(B, MORE, thing), False)
        self.assertIs(is_parting(B, B, pair), False)

    def test_errors(self):
        check_errors(self, parting_hours, (B, MORE), [(0, BadBranch, NO_BRANCHES), (1, BadBranch, NO_BRANCHES)])
        check_errors(self, is_parting, (B, MORE, None), [(0, BadBranch, NO_BRANCHES), (1, BadBranch, NO_BRANCHES)])

    def test_example(self):
        """[91]"""
        self.assertIs(is_parting(B, MORE, (2, 1)), True)
        self.assertEqual(comes_in(closed_branch(3, 3)), None)
        self.assertEqual((comes_in(told_branch(3, 4, 8)), goes_out(told_branch(3, 4, 8))), (comes_in(MORE), goes_out(MORE)))
        self.assertIsNone(parting_hours(told_branch(3, 4, 8), MORE))

    def test_thirty_rooms(self):
        for number, house in enumerate(great_houses(30)):
            chance = random.Random(number)
            woods = random_woods(chance, house, 9)
            fire = fire_of(chance, house, woods)
            book = {room: fire[room] for room in chance.sample(house.rooms(), 5)}
            one, other = (Branch(house, rim, woods, book) for rim in chance.sample(house.rooms(), 2))
            pair = parting_hours(one, other)
            self.assertEqual(is_parting(one, other, pair), pair is not None)


def told_like(branch):
    """A branch built as told that is like another one, None if there is none."""
    span, out = comes_in(branch), goes_out(branch)
    if len(out) != 1 or out[0][0] is None:
        return None
    if span is None:
        return closed_branch(*out[0])
    return told_branch(span[0], span[1], out[0][1])


class Told(unittest.TestCase):
    """[90]"""

    def test_told_branch(self):
        for least in (-3, 0, 2):
            for most in range(least, least + 7):
                for last in range(most + 1, most + 12):
                    self.check(told_branch(least, most, last), (least, most), [(least + 1, last)])

    def check(self, branch, span, out):
        self.assertEqual((comes_in(branch), goes_out(branch)), (span, out))
        self.assertLessEqual(len(branch.house()), 30)
        self.assertIsInstance(branch, Branch)

    def test_closed_branch(self):
        for least in (-3, 0, 2):
            for most in range(least, least + 7):
                self.check(closed_branch(least, most), None, [(least, most)])

    def test_six_figures(self):
        for least, most, last in ((-999999, 999998, 999999), (-999999, -999999, 999999), (-999999, -999998, 999999),
                                  (0, 500000, 999999), (0, 499999, 999999), (0, 499998, 999999), (7, 7, 8)):
            self.check(told_branch(least, most, last), (least, most), [(least + 1, last)])
            self.check(closed_branch(least, last), None, [(least, last)])

    def test_by_all_fires(self):
        """by fires gone through one by one, not by comes_in and goes_out"""
        for least, most, last in ((0, 0, 1), (0, 0, 3), (0, 1, 2), (0, 1, 3), (0, 2, 3), (0, 2, 5)):
            branch = told_branch(least, most, last)
            for hour in range(-3, 8):
                self.assertEqual(fire_around(branch, hour, hour - 1), least <= hour + 1 <= most)
                self.assertEqual(fire_around(branch, hour, hour + 1),
                                 least <= hour + 1 <= most or least + 1 <= hour <= last)
        branch = closed_branch(1, 3)
        for hour in range(-3, 8):
            self.assertIs(fire_around(branch, hour, hour - 1), False)
            self.assertIs(fire_around(branch, hour, hour + 1), 1 <= hour <= 3)

    def test_errors(self):
        for place in range(3):
            for thing in INTEGERS:
                told = [0, 1, 2]
                told[place] = thing
                error = raised(self, BadTold, told_branch, *told)
                self.assertIsInstance(error.thing, tuple)
                self.assertTrue(len(error.thing) == 3 and all(a is b for a, b in zip(error.thing, told)))
        for told in ((1, 0, 5), (0, 1, 1), (0, 1, 0), (0, 0, 0)):
            self.assertEqual(raised(self, BadTold, told_branch, *told).thing, told)
        for place in range(2):
            for thing in INTEGERS:
                told = [0, 1]
                told[place] = thing
                error = raised(self, BadTold, closed_branch, *told)
                self.assertTrue(isinstance(error.thing, tuple) and all(a is b for a, b in zip(error.thing, told)))
        self.assertEqual(raised(self, BadTold, closed_branch, 1, 0).thing, (1, 0))

    def test_in_turns(self):
        in_turns(self, [lambda: parts(told_branch(0, 3, 5))[2], lambda: parts(told_branch(0, 1, 5))[2],
                        lambda: parting_hours(B, MORE), lambda: parting_hours(MORE, told_branch(3, 4, 9)),
                        lambda: goes_out(MORE), lambda: meeting_hours(B, far_branch(MORE)), lambda: goes_out(B)])
        self.assertEqual(told_branch(0, 3, 5), told_branch(0, 3, 5))
        self.assertEqual(closed_branch(0, 3), closed_branch(0, 3))


if __name__ == "__main__":
    unittest.main()
