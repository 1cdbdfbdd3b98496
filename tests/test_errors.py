import unittest

from hearths import errors

NAMES = """
BadAnswer(thing) BadBack(back) BadBlaze(thing) BadBook(thing) BadBooks(index) BadBranch(thing) BadChance(thing)
BadClaims(index) BadCottage(thing) BadDeed(thing) BadDoors(index) BadDrafts(thing) BadFire(thing) BadHour(thing)
BadHours(thing) BadLength(thing) BadLooker(thing) BadMade(thing) BadMany(many) BadName(thing) BadNames(thing)
BadNumber(thing) BadOpens(thing) BadOrder(index) BadPairs(index) BadPrices(thing) BadQuestion(thing)
BadRooms(index) BadSaying(thing) BadSayings(index) BadShut(thing) BadSome(index) BadSpans(thing) BadSteps(thing)
BadText(line) BadTold(thing) BadTour(index) BadWatchers(index) BadWhole(thing) BadWood(thing) BadWoods(thing)
BurntOut(one) CommonRoom(name) InUse(question) IsNoted(room) IsWatched(question) LastRoom() NoCount(thing)
NoDoor(one,other) NoFire() NoFireSo(fault) NoRoom(thing) NoneFits(paper) NotFitting(room) NotJoined(room)
NotLeaf(name) NotNoted(room) NotWatched(question) NothingTold() SameRoom(room) TakenRoom(name) TooSoon(one)
WouldChange(question)
"""


def listed():
    for word in NAMES.split():
        name, _, rest = word.partition("(")
        yield name, [part for part in rest[:-1].split(",") if part]


class Errors(unittest.TestCase):
    """[4]"""

    def test_the_base(self):
        self.assertEqual(errors.HearthError.__bases__, (ValueError,))
        self.assertIsInstance(errors.HearthError(), ValueError)

    def test_each_is_a_class_of_its_own_right_beneath(self):
        classes = [getattr(errors, name) for name, _ in listed()]
        self.assertEqual(len(set(classes)), 63)
        for made in classes:
            self.assertEqual(made.__bases__, (errors.HearthError,))
            self.assertEqual(made.__module__, "hearths.errors")

    def test_made_by_place_and_by_name(self):
        for name, parts in listed():
            things = [[name], {name: []}][:len(parts)]
            placed = getattr(errors, name)(*things)
            named = getattr(errors, name)(**dict(zip(parts, things)))
            for part, thing in zip(parts, things):
                self.assertIs(getattr(placed, part), thing)
                self.assertIs(getattr(named, part), thing)

    def test_raised_and_caught_as_its_own_only(self):
        for name, parts in listed():
            with self.assertRaises(getattr(errors, name)) as caught:
                raise getattr(errors, name)(*parts)
            self.assertIs(caught.exception.__class__, getattr(errors, name))


if __name__ == "__main__":
    unittest.main()
