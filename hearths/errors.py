"""The errors of the package, each right beneath HearthError."""


class HearthError(ValueError):
    """What all errors of the package are."""


class BadAnswer(HearthError):
    def __init__(self, thing):
        self.thing = thing


class BadBack(HearthError):
    def __init__(self, back):
        self.back = back


class BadBlaze(HearthError):
    def __init__(self, thing):
        self.thing = thing


class BadBook(HearthError):
    def __init__(self, thing):
        self.thing = thing


class BadBooks(HearthError):
    def __init__(self, index):
        self.index = index


class BadBranch(HearthError):
    def __init__(self, thing):
        self.thing = thing


class BadChance(HearthError):
    def __init__(self, thing):
        self.thing = thing


class BadClaims(HearthError):
    def __init__(self, index):
        self.index = index


class BadCottage(HearthError):
    def __init__(self, thing):
        self.thing = thing


class BadDeed(HearthError):
    def __init__(self, thing):
        self.thing = thing


class BadDoors(HearthError):
    def __init__(self, index):
        self.index = index


class BadDrafts(HearthError):
    def __init__(self, thing):
        self.thing = thing


class BadFire(HearthError):
    def __init__(self, thing):
        self.thing = thing


class BadHour(HearthError):
    def __init__(self, thing):
        self.thing = thing


class BadHours(HearthError):
    def __init__(self, thing):
        self.thing = thing


class BadLength(HearthError):
    def __init__(self, thing):
        self.thing = thing


class BadLooker(HearthError):
    def __init__(self, thing):
        self.thing = thing


class BadMade(HearthError):
    def __init__(self, thing):
        self.thing = thing


class BadMany(HearthError):
    def __init__(self, many):
        self.many = many


class BadName(HearthError):
    def __init__(self, thing):
        self.thing = thing


class BadNames(HearthError):
    def __init__(self, thing):
        self.thing = thing


class BadNumber(HearthError):
    def __init__(self, thing):
        self.thing = thing


class BadOpens(HearthError):
    def __init__(self, thing):
        self.thing = thing


class BadOrder(HearthError):
    def __init__(self, index):
        self.index = index


class BadPairs(HearthError):
    def __init__(self, index):
        self.index = index


class BadPrices(HearthError):
    def __init__(self, thing):
        self.thing = thing


class BadQuestion(HearthError):
    def __init__(self, thing):
        self.thing = thing


class BadRooms(HearthError):
    def __init__(self, index):
        self.index = index


class BadSaying(HearthError):
    def __init__(self, thing):
        self.thing = thing


class BadSayings(HearthError):
    def __init__(self, index):
        self.index = index


class BadShut(HearthError):
    def __init__(self, thing):
        self.thing = thing


class BadSome(HearthError):
    def __init__(self, index):
        self.index = index


class BadSpans(HearthError):
    def __init__(self, thing):
        self.thing = thing


class BadSteps(HearthError):
    def __init__(self, thing):
        self.thing = thing


class BadText(HearthError):
    def __init__(self, line):
        self.line = line


class BadTold(HearthError):
    def __init__(self, thing):
        self.thing = thing


class BadTour(HearthError):
    def __init__(self, index):
        self.index = index


class BadWatchers(HearthError):
    def __init__(self, index):
        self.index = index


class BadWhole(HearthError):
    def __init__(self, thing):
        self.thing = thing


class BadWood(HearthError):
    def __init__(self, thing):
        self.thing = thing


class BadWoods(HearthError):
    def __init__(self, thing):
        self.thing = thing


class BurntOut(HearthError):
    def __init__(self, one):
        self.one = one


class CommonRoom(HearthError):
    def __init__(self, name):
        self.name = name


class InUse(HearthError):
    def __init__(self, question):
        self.question = question


class IsNoted(HearthError):
    def __init__(self, room):
        self.room = room


class IsWatched(HearthError):
    def __init__(self, question):
        self.question = question


class LastRoom(HearthError):
    """The only room can not be pulled."""


class NoCount(HearthError):
    def __init__(self, thing):
        self.thing = thing


class NoDoor(HearthError):
    def __init__(self, one, other):
        self.one = one
        self.other = other


class NoFire(HearthError):
    """No fire keeps what is said."""


class NoFireSo(HearthError):
    def __init__(self, fault):
        self.fault = fault


class NoRoom(HearthError):
    def __init__(self, thing):
        self.thing = thing


class NoneFits(HearthError):
    def __init__(self, paper):
        self.paper = paper


class NotFitting(HearthError):
    def __init__(self, room):
        self.room = room


class NotJoined(HearthError):
    def __init__(self, room):
        self.room = room


class NotLeaf(HearthError):
    def __init__(self, name):
        self.name = name


class NotNoted(HearthError):
    def __init__(self, room):
        self.room = room


class NotWatched(HearthError):
    def __init__(self, question):
        self.question = question


class NothingTold(HearthError):
    """The book tells nothing."""


class SameRoom(HearthError):
    def __init__(self, room):
        self.room = room


class TakenRoom(HearthError):
    def __init__(self, name):
        self.name = name


class TooSoon(HearthError):
    def __init__(self, one):
        self.one = one


class WouldChange(HearthError):
    def __init__(self, question):
        self.question = question
