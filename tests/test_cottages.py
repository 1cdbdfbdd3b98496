import random
import unittest

from hearths import errors
from hearths.cottages import Cottage
from hearths.errors import (BadDeed, BadName, BadQuestion, BadWood, BurntOut, InUse, IsNoted, IsWatched, LastRoom, NoCount,
                            NoDoor, NoRoom, NotLeaf, NotNoted, NotWatched, TakenRoom, TooSoon, WouldChange)
from hearths.houses import House
from tests.brute import all_fitting, house_of, path, stretches_of
from tests.test_ways import raised
from tests.wrong import ALL, FROM_ONE, one_room, with_lists

NAMES = ["a", "b", "c", "d", "e"]
QUESTIONS = [("fits",), ("fires",), ("firsts",)] + [(kind, room) for kind in ("first", "early", "late") for room in NAMES]
NO_QUESTIONS = ALL + ["fits", ("fit",), ("fits", "a"), ("first",), ("first", "z"), ("first", "a", "b"), ("early", None),
                      ("late", 1), (None,), (["fits"],), ("firsts", "a"), ("fits", None), {"fits": 1}, ("first", ["a"]),
                      ("watch", ("fits",)), ["Fits"], ("FITS",)]
NEAR_DEEDS = ALL + [
    ("build",), ("build", "x"), ("build", "x", "a"), ("build", "x", "a", 0), ("build", "x", "a", True), ("build", "X", "a", 1),
    ("build", "x", "A", 1), ("build", "x", "a", "1"), ("build", "x", "a", 1, 1), ("build", None, "a", 1),
    ("build", "x", ["a"], 1), ("lay", "a"), ("lay", "a", 0), ("lay", "a", -1), ("lay", "a", True), ("lay", "", 1),
    ("lay", 1, "a"), ("lay", "a", 1, 1), ("pull",), ("pull", ""), ("pull", "a", "a"), ("pull", 1), ("note", "a"),
    ("note", "a", None), ("note", "a", True), ("note", "a", "1"), ("note", "A", 1), ("note", "a", 1, 2), ("strike",),
    ("strike", 4), ("strike", "a", 1), ("wait",), ("wait", 0), ("wait", -1), ("wait", False), ("wait", "a"), ("wait", 1, 1),
    ("make",), ("make", "a" * 13), ("make", "a", "b"), ("carry", "a"), ("carry", "a", 1), ("carry", 1, "a"),
    ("carry", "a", "b", "c"), ("watch",), ("hold",), ("free",), ("watch", ("fits",), 1), ("hold", "fits", "a"), "wait",
    ("free", ("fits",), ("fits",)), ("Wait", 1), ("waits", 1), ("undo",), (["wait"], 1), {"wait": 1}, ("wait", [1])]


def snapshot(cottage):
    """All that a cottage tells, but what can be done again."""
    return (cottage.now().rooms(), cottage.now().doors(), cottage.woods(), cottage.book(), cottage.hour(),
            cottage.watched(), cottage.deeds(), cottage.count())


def built(*deeds):
    cottage = Cottage("b", 3)
    for deed in deeds:
        cottage.do(deed)
    return cottage


BUILDING = [("build", "a", "b", 2), ("build", "c", "b", 1), ("build", "d", "b", 1)]
CARRYING = [("make", "a"), ("wait", 2), ("carry", "a", "b"), ("wait", 1), ("carry", "b", "c"), ("wait", 2),
            ("carry", "b", "d")]


class Model:
    """A cottage by the words of the document, its answers by all fires."""

    def __init__(self, room, wood):
        self.woods, self.doors, self.book, self.hour, self.asked = {room: wood}, [], {}, 0, []

    def copy(self):
        other = Model("a", 1)
        other.woods, other.doors, other.book = dict(self.woods), list(self.doors), dict(self.book)
        other.hour, other.asked = self.hour, [list(row) for row in self.asked]
        return other

    def house(self):
        return House(list(self.woods), self.doors)

    def is_question(self, question):
        return len(question) == 1 or question[1] in self.woods

    def answers(self):
        """The dict from the watched questions to their answers."""
        fires = all_fitting(self.house(), self.woods, self.book) if self.book else None
        return {question: self.answer(fires, question) for question, _ in self.asked if self.is_question(question)}

    def answer(self, fires, question):
        if fires is None:
            return None
        firsts = {first for first, _ in fires}
        hours = [fire[question[1]] for _, fire in fires] if len(question) == 2 else []
        return {"fits": lambda: fires != [], "fires": lambda: len(fires), "firsts": lambda: len(firsts),
                "first": lambda: question[1] in firsts, "early": lambda: min(hours, default=None),
                "late": lambda: max(hours, default=None)}[question[0]]()

    def near(self, room):
        return [one if other == room else other for one, other in self.doors if room in (one, other)]

    def refusal(self, deed):
        """The error that a deed of a right form is refused with, but InUse and WouldChange, as (class, kept things)."""
        kind, rooms = deed[0], []
        if kind == "build":
            if deed[1] in self.woods:
                return TakenRoom, {"name": deed[1]}
            rooms = [deed[2]]
        elif kind in ("lay", "pull", "note", "strike", "make"):
            rooms = [deed[1]]
        elif kind == "carry":
            rooms = list(deed[1:])
        for room in rooms:
            if room not in self.woods:
                return NoRoom, {"thing": room}
        return self.further_refusal(kind, deed)

    def further_refusal(self, kind, deed):
        if kind == "pull":
            if len(self.woods) == 1:
                return LastRoom, {}
            if len(self.near(deed[1])) > 1:
                return NotLeaf, {"name": deed[1]}
            if deed[1] in self.book:
                return IsNoted, {"room": deed[1]}
        if kind == "strike" and deed[1] not in self.book:
            return NotNoted, {"room": deed[1]}
        if kind == "make" and self.book:
            return IsNoted, {"room": min(self.book)}
        if kind == "carry":
            return self.refused_carrying(*deed[1:])
        if kind in ("watch", "hold", "free"):
            return self.refused_question(kind, tuple(deed[1]))
        return None

    def refused_carrying(self, one, other):
        if other not in self.near(one):
            return NoDoor, {"one": one, "other": other}
        if other in self.book:
            return IsNoted, {"room": other}
        if one not in self.book:
            return NotNoted, {"room": one}
        if self.book[one] >= self.hour:
            return TooSoon, {"one": one}
        if self.hour - self.book[one] > self.woods[one]:
            return BurntOut, {"one": one}
        return None

    def refused_question(self, kind, question):
        if not self.is_question(question):
            return BadQuestion, {"thing": question}
        held = dict((other, is_held) for other, is_held in self.asked)
        if kind == "watch" and question in held or kind == "hold" and held.get(question):
            return IsWatched, {"question": question}
        if kind == "free" and question not in held:
            return NotWatched, {"question": question}
        return None

    def behind(self, deed):
        """The model behind a deed that is not refused."""
        new, kind = self.copy(), deed[0]
        if kind == "build":
            new.woods[deed[1]] = deed[3]
            new.doors.append((deed[1], deed[2]))
        elif kind == "lay":
            new.woods[deed[1]] += deed[2]
        elif kind == "pull":
            del new.woods[deed[1]]
            new.doors = [door for door in new.doors if deed[1] not in door]
        elif kind == "note":
            new.book[deed[1]] = deed[2]
        elif kind == "strike":
            del new.book[deed[1]]
        elif kind == "wait":
            new.hour += deed[1]
        elif kind in ("make", "carry"):
            new.book[deed[-1]] = new.hour
        else:
            new.ask(kind, tuple(deed[1]))
        return new

    def ask(self, kind, question):
        rows = [row for row in self.asked if row[0] == question]
        if kind == "free":
            self.asked.remove(rows[0])
        elif rows:
            rows[0][1] = True
        else:
            self.asked.append([question, kind == "hold"])


def random_deed(chance, model):
    rooms = sorted(model.woods)
    name = chance.choice(rooms * 3 + NAMES)
    kind = chance.choice(["build"] * 4 + ["lay", "pull", "note", "note", "note", "strike", "wait", "wait", "wait", "make",
                                          "make", "carry", "carry", "carry", "carry", "watch", "watch", "hold", "free"])
    if kind == "build":
        return (kind, chance.choice(NAMES), name, chance.randint(1, 3))
    if kind == "lay":
        return (kind, name, 1) if model.woods.get(name, 0) < 3 else ("wait", 1)
    if kind == "note":
        return (kind, name, chance.randint(max(0, model.hour - 4), model.hour + 1))
    if kind == "wait":
        return (kind, chance.randint(1, 2))
    if kind == "carry":
        return (kind, name, chance.choice(model.near(name) + [chance.choice(NAMES)] if name in model.woods else NAMES))
    if kind in ("watch", "hold", "free"):
        return (kind, chance.choice(QUESTIONS + [row[0] for row in model.asked] * 6))
    return (kind, name)


class Living(unittest.TestCase):
    """[125], [126], [127]"""

    def test_random_lives(self):
        seen = {}
        for seed in range(120):
            chance = random.Random(seed)
            cottage, model = Cottage("c", 2), Model("c", 2)
            for _ in range(40):
                deed = random_deed(chance, model)
                told = chance.choice([deed, with_lists(deed)])
                model, name = self.step(cottage, model, deed, told)
                seen[name] = seen.get(name, 0) + 1
                self.compare(cottage, model)
        kinds = (BadQuestion, BurntOut, InUse, IsNoted, IsWatched, LastRoom, NoDoor, NoRoom, NotLeaf, NotNoted, NotWatched,
                 TakenRoom, TooSoon, WouldChange)
        self.assertTrue(all(seen[kind.__name__] >= 3 for kind in kinds), seen)
        self.assertTrue(seen["changed"] > 100, seen)

    def step(self, cottage, model, deed, told):
        """Does a deed with both, or has it refused by both; tells the model behind it and what came of it."""
        ahead = snapshot(cottage)
        refusal = model.refusal(deed)
        if refusal is None and deed[0] == "pull":
            left = model.behind(deed)
            unasked = [question for question, _ in model.asked if not left.is_question(question)]
            refusal = (InUse, {"question": unasked[0]}) if unasked else None
        if refusal is not None:
            self.refused(cottage, told, ahead, refusal, (cottage.would, cottage.do))
            return model, refusal[0].__name__
        new = model.behind(deed)
        was, later = model.answers(), new.answers()
        changes = [(row[0], was[row[0]], later[row[0]]) for row in model.asked
                   if row[0] in later and was[row[0]] != later[row[0]]]
        self.assertEqual(cottage.would(told), changes)
        self.assertEqual(snapshot(cottage), ahead)
        held = [question for question, _, _ in changes if [question, True] in model.asked]
        if held:
            self.refused(cottage, told, ahead, (WouldChange, {"question": held[0]}), (cottage.do,))
            return model, "WouldChange"
        self.assertEqual(cottage.do(told), changes)
        self.assertEqual(cottage.deeds()[-1], deed)
        self.assertEqual(cottage.count(), len(ahead[-2]) + 1)
        return new, "changed" if changes else "done"

    def refused(self, cottage, told, ahead, refusal, calls):
        kind, kept = refusal
        for call in calls:
            error = raised(self, kind, call, told)
            for name, thing in kept.items():
                there = getattr(error, name)
                self.assertEqual(with_lists(there) if isinstance(there, list) else there, thing)
                if isinstance(thing, tuple) and kind is not BadQuestion:
                    self.assertIsInstance(there, tuple)
            self.assertEqual(snapshot(cottage), ahead)

    def compare(self, cottage, model):
        self.assertEqual(cottage.now(), model.house())
        self.assertEqual(list(cottage.woods().items()), sorted(model.woods.items()))
        self.assertEqual(list(cottage.book().items()), sorted(model.book.items()))
        self.assertEqual(cottage.hour(), model.hour)
        answers = model.answers()
        self.assertEqual(cottage.watched(), [(question, answers[question], held) for question, held in model.asked])
        for question, answer in answers.items():
            self.assertEqual(repr(cottage.answer(question)), repr(answer))


class Deeds(unittest.TestCase):
    """[124], [125], [126]"""

    def test_begin(self):
        cottage = Cottage("b", 3)
        self.assertEqual((cottage.now(), cottage.woods(), cottage.book()), (House(["b"], []), {"b": 3}, {}))
        self.assertEqual((cottage.hour(), cottage.watched(), cottage.count(), cottage.deeds()), (0, [], 0, []))
        for thing in ALL + ["B", "1a", "a" * 13, "a b"]:
            if thing != "zz":
                self.assertIs(raised(self, BadName, Cottage, thing, None).thing, thing)
        for thing in FROM_ONE:
            self.assertIs(raised(self, BadWood, Cottage, "a", thing).thing, thing)

    def test_near_deeds(self):
        for cottage in (Cottage("a", 1), built(*BUILDING, *CARRYING, ("watch", ("fits",)), ("hold", ("firsts",)))):
            ahead = snapshot(cottage)
            for thing in NEAR_DEEDS:
                for call in (cottage.do, cottage.would):
                    self.assertIs(raised(self, BadDeed, call, thing).thing, thing)
            self.assertEqual(snapshot(cottage), ahead)

    def test_near_questions(self):
        cottage = built(*BUILDING)
        for thing in NO_QUESTIONS:
            for kind in ("watch", "hold", "free"):
                for call in (cottage.do, cottage.would):
                    self.assertIs(raised(self, BadQuestion, call, (kind, thing)).thing, thing)
            self.assertIs(raised(self, BadQuestion, cottage.answer, thing).thing, thing)
            self.assertIs(cottage.is_question(thing), False)
        for thing in [("fits",), ["fires"], ("firsts",), ("first", "a"), ["early", "b"], ("late", "d")]:
            self.assertIs(cottage.is_question(thing), True)
            self.assertIsNone(cottage.answer(thing))

    def test_the_very_objects(self):
        cottage = built(*BUILDING, *CARRYING[:3])
        names = {name: "".join(["x", name])[1:] for name in "abcdz"}
        rows = [(TakenRoom, "name", ("build", names["a"], "z", 1), 1), (NoRoom, "thing", ("build", "x", names["z"], 1), 2),
                (NoRoom, "thing", ("lay", names["z"], 1), 1), (NoRoom, "thing", ("pull", names["z"]), 1),
                (NoRoom, "thing", ("note", names["z"], 1), 1), (NoRoom, "thing", ("strike", names["z"]), 1),
                (NoRoom, "thing", ("make", names["z"]), 1), (NoRoom, "thing", ("carry", names["z"], "y"), 1),
                (NoRoom, "thing", ("carry", "a", names["z"]), 2), (NotLeaf, "name", ("pull", names["b"]), 1),
                (IsNoted, "room", ("pull", names["a"]), 1), (NotNoted, "room", ("strike", names["c"]), 1),
                (NoDoor, "one", ("carry", names["a"], "c"), 1), (NoDoor, "other", ("carry", "a", names["c"]), 2),
                (IsNoted, "room", ("carry", "b", names["a"]), 2), (NotNoted, "room", ("carry", names["c"], "z"), None),
                (TooSoon, "one", ("carry", names["b"], "c"), 1)]
        for kind, name, deed, at in rows:
            if at is not None:
                self.assertIs(getattr(raised(self, kind, cottage.do, deed), name), deed[at])
        self.assertEqual(raised(self, IsNoted, cottage.do, ("make", "d")).room, "a")

    def test_order_of_errors(self):
        cottage = Cottage("b", 1)
        raised(self, LastRoom, cottage.do, ("pull", "b"))
        cottage.do(("note", "b", 0))
        raised(self, LastRoom, cottage.do, ("pull", "b"))
        cottage = built(*BUILDING, ("note", "b", 0), ("watch", ("first", "b")), ("watch", ("first", "d")))
        raised(self, NotLeaf, cottage.do, ("pull", "b"))
        cottage.do(("note", "d", 1))
        raised(self, IsNoted, cottage.do, ("pull", "d"))
        self.assertEqual(raised(self, TakenRoom, cottage.do, ("build", "d", "zz", 1)).name, "d")
        self.assertEqual(raised(self, NoRoom, cottage.do, ("carry", "y", "z")).thing, "y")
        self.assertEqual(raised(self, NoRoom, cottage.do, ("carry", "d", "z")).thing, "z")
        error = raised(self, NoDoor, cottage.do, ("carry", "d", "d"))
        self.assertEqual((error.one, error.other), ("d", "d"))
        self.assertEqual(raised(self, IsNoted, cottage.do, ("carry", "b", "d")).room, "d")
        self.assertEqual(raised(self, IsNoted, cottage.do, ("carry", "a", "b")).room, "b")
        cottage.do(("strike", "d"))
        self.assertEqual(raised(self, InUse, cottage.do, ("pull", "d")).question, ("first", "d"))
        cottage.do(("free", ("first", "d")))
        cottage.do(("hold", ("fires",)))
        self.assertEqual(raised(self, WouldChange, cottage.do, ("pull", "d")).question, ("fires",))
        cottage.do(("hold", ("late", "d")))
        self.assertEqual(raised(self, InUse, cottage.do, ("pull", "d")).question, ("late", "d"))
        self.assertEqual(raised(self, InUse, cottage.would, ("pull", "d")).question, ("late", "d"))

    def test_carrying_in_time(self):
        cottage = built(*BUILDING, ("make", "a"))
        self.assertEqual(raised(self, TooSoon, cottage.do, ("carry", "a", "b")).one, "a")
        for hours, kind in ((1, None), (2, None), (3, BurntOut)):
            there = cottage.copy()
            there.do(("wait", hours))
            if kind is None:
                there.do(("carry", "a", "b"))
                self.assertEqual(there.book(), {"a": 0, "b": hours})
            else:
                self.assertEqual(raised(self, kind, there.do, ("carry", "a", "b")).one, "a")
        later = built(*BUILDING, ("note", "a", 5))
        self.assertEqual(raised(self, TooSoon, later.do, ("carry", "a", "b")).one, "a")
        self.assertEqual(raised(self, NotNoted, later.do, ("carry", "b", "c")).room, "b")

    def test_questions_as_tuples(self):
        cottage = built(*BUILDING)
        cottage.do(["watch", ["first", "a"]])
        cottage.do(["hold", ["fits"]])
        self.assertEqual(cottage.watched(), [(("first", "a"), None, False), (("fits",), None, True)])
        self.assertEqual(cottage.deeds()[-2:], [("watch", ("first", "a")), ("hold", ("fits",))])
        for deed in (("watch", ["first", "a"]), ("watch", ["fits"]), ("hold", ["fits"])):
            error = raised(self, IsWatched, cottage.do, deed)
            self.assertEqual(error.question, tuple(deed[1]))
            self.assertIsInstance(error.question, tuple)
        error = raised(self, NotWatched, cottage.do, ("free", ["firsts"]))
        self.assertEqual((error.question, error.question.__class__), (("firsts",), tuple))

    def test_held_in_its_place(self):
        cottage = built(("watch", ("fits",)), ("watch", ("firsts",)), ("hold", ("fits",)))
        self.assertEqual(cottage.watched(), [(("fits",), None, True), (("firsts",), None, False)])
        cottage.do(("free", ("fits",)))
        cottage.do(("hold", ("fits",)))
        self.assertEqual(cottage.watched(), [(("firsts",), None, False), (("fits",), None, True)])

    def test_told_is_new(self):
        cottage = built(*BUILDING, *CARRYING, ("watch", ("fits",)))
        ahead = snapshot(cottage)
        for told in (cottage.woods(), cottage.book(), cottage.watched(), cottage.deeds(), cottage.mending_rooms(),
                     cottage.could_note("a"), cottage.now().rooms(), cottage.would(("wait", 1))):
            told.clear()
        self.assertEqual(snapshot(cottage), ahead)

    def test_deeds_are_copied(self):
        deed, question = ["watch", None], ["fits"]
        deed[1] = question
        cottage = built(deed)
        question[0] = "spoilt"
        deed[0] = "spoilt"
        self.assertEqual(cottage.deeds(), [("watch", ("fits",))])
        self.assertEqual(cottage.watched(), [(("fits",), None, False)])

    def test_equality(self):
        one, other = built(*BUILDING, *CARRYING), built(*BUILDING[::-1], *CARRYING)
        self.assertTrue(one == other and not one != other)
        for deed in (("wait", 1), ("lay", "a", 1), ("build", "x", "a", 1), ("strike", "d"), ("note", "d", 4),
                     ("watch", ("fits",)), ("hold", ("fits",))):
            there = one.copy()
            there.do(deed)
            self.assertTrue(there != one and one != there)
            there.undo()
            self.assertTrue(there == one)
        watching, holding = one.copy(), one.copy()
        watching.do(("watch", ("fits",)))
        holding.do(("hold", ("fits",)))
        self.assertNotEqual(watching, holding)
        watching.do(("hold", ("fits",)))
        self.assertEqual(watching, holding)
        self.assertNotEqual(built(("watch", ("fits",)), ("watch", ("fires",))), built(("watch", ("fires",)), ("watch", ("fits",))))
        for thing in ALL + [one.now(), one.book(), Cottage, errors.HearthError()]:
            self.assertFalse(one == thing)
            self.assertTrue(one != thing)
        self.assertEqual(Cottage("a", 1), Cottage("a", 1))
        self.assertNotEqual(Cottage("a", 1), Cottage("b", 1))
        self.assertNotEqual(Cottage("a", 1), Cottage("a", 2))
        self.assertEqual(Cottage("a", 1).now(), one_room())

    def test_example(self):
        """[132]"""
        cottage = built(*BUILDING, *CARRYING)
        self.assertEqual(cottage.book(), {"a": 0, "b": 2, "c": 3, "d": 5})
        self.assertEqual(cottage.answer(("firsts",)), 1)
        cottage.do(("strike", "b"))
        self.assertEqual(cottage.could_note("b"), [(2, 2)])
        held = cottage.copy()
        cottage.do(("note", "b", 3))
        self.assertEqual(cottage.mending_rooms(), ["b"])
        held.do(("hold", ("fits",)))
        self.assertEqual(raised(self, WouldChange, held.do, ("note", "b", 3)).question, ("fits",))
        self.assertEqual(held.would(("note", "b", 3)), [(("fits",), True, False)])


class Ahead(unittest.TestCase):
    """[128]"""

    def test_hour_by_hour(self):
        seen = {True: 0, False: 0}
        for seed in range(60):
            chance = random.Random(seed)
            cottage, book = self.random_cottage(chance)
            house, woods = cottage.now(), cottage.woods()
            for room in house.rooms():
                others = {far: hour for far, hour in book.items() if far != room}
                told = cottage.could_note(room)
                if not others:
                    self.assertIsNone(told)
                    continue
                hours = {fire[room] for _, fire in all_fitting(house, woods, others)}
                self.assertEqual(told, stretches_of(hours))
                for hour in range(min(book.values()) - 9, max(book.values()) + 9):
                    cottage.do(("note", room, hour))
                    self.assertEqual(cottage.answer(("fits",)), hour in hours)
                    cottage.undo()
            fits = not book or all_fitting(house, woods, book) != []
            seen[fits] += 1
            mending = []
            for room in sorted(book):
                left = {far: hour for far, hour in book.items() if far != room}
                if not fits and (not left or all_fitting(house, woods, left)):
                    mending.append(room)
            self.assertEqual(cottage.mending_rooms(), mending)
        self.assertTrue(min(seen.values()) > 10, seen)

    def random_cottage(self, chance):
        cottage = Cottage("c", chance.randint(1, 3))
        for name in chance.sample("abdefgh", chance.randint(0, 4)):
            cottage.do(("build", name, chance.choice(cottage.now().rooms()), chance.randint(1, 3)))
        for room in cottage.now().rooms():
            if chance.random() < 0.7:
                cottage.do(("note", room, chance.randint(0, 5)))
        return cottage, cottage.book()

    def test_would_changes_nothing(self):
        cottage = built(*BUILDING, *CARRYING, ("hold", ("fires",)), ("watch", ("fits",)))
        ahead = snapshot(cottage)
        cottage.undo()
        for deed in (("strike", "a"), ("note", "a", 3), ("wait", 4), ("free", ("fires",)), ("pull", "a"), ("pull", "z")):
            try:
                cottage.would(deed)
            except errors.HearthError:
                pass
        self.assertEqual(cottage.again(), ("watch", ("fits",)))
        self.assertEqual(snapshot(cottage), ahead)
        self.assertEqual(cottage.would(("note", "b", 9)), [(("fires",), 1, 0), (("fits",), True, False)])

    def test_errors(self):
        cottage = built(*BUILDING, *CARRYING)
        for thing in ALL:
            self.assertIs(raised(self, NoRoom, cottage.could_note, thing).thing, thing)
            self.assertIs(raised(self, NoRoom, Cottage("a", 1).could_note, thing).thing, thing)
        self.assertIsNone(Cottage("a", 1).could_note("a"))
        self.assertEqual(Cottage("a", 1).mending_rooms(), [])
        self.assertIsNone(built(("note", "b", 4)).could_note("b"))

    def test_answers_of_kinds(self):
        cottage = built(*BUILDING)
        for question in (("fits",), ("fires",), ("firsts",), ("first", "a"), ("early", "a"), ("late", "a")):
            self.assertIsNone(cottage.answer(question))
        cottage.do(("note", "a", 4))
        cottage.do(("note", "d", 4))
        told = [cottage.answer(question) for question in [("fits",), ("first", "a"), ("first", "b"), ("firsts",)]]
        self.assertEqual([repr(answer) for answer in told], ["True", "False", "True", "2"])
        self.assertEqual([cottage.answer((kind, "c")) for kind in ("early", "late")], [0, 6])
        cottage.do(("note", "a", 40))
        told = [cottage.answer(question) for question in [("fits",), ("fires",), ("firsts",), ("first", "a"), ("early", "a"),
                                                          ("late", "c")]]
        self.assertEqual([repr(answer) for answer in told], ["False", "0", "0", "False", "None", "None"])


class Back(unittest.TestCase):
    """[129]"""

    def lives(self):
        yield BUILDING + CARRYING
        yield BUILDING + [("lay", "a", 3), ("note", "a", 7), ("watch", ("fits",)), ("hold", ("first", "a")), ("wait", 2),
                          ("free", ("fits",)), ("note", "a", 8), ("hold", ("fires",)), ("pull", "d")]
        yield [("make", "b"), ("strike", "b"), ("build", "e", "b", 4), ("hold", ("fits",)), ("watch", ("firsts",))]
        yield [("build", "e", "b", 4), ("note", "b", -2), ("watch", ("early", "b")), ("pull", "e"), ("lay", "b", 1)]

    def test_undo_and_again(self):
        kinds = set()
        for deeds in self.lives():
            cottage = Cottage("b", 3)
            shots = [snapshot(cottage)]
            done = []
            for deed in deeds:
                try:
                    cottage.do(deed)
                except WouldChange:
                    continue
                done.append(deed)
                shots.append(snapshot(cottage))
            self.assertIsNone(cottage.again())
            for at in range(len(done) - 1, -1, -1):
                self.assertEqual(cottage.undo(), done[at])
                self.assertEqual(snapshot(cottage), shots[at])
            self.assertIsNone(cottage.undo())
            for at, deed in enumerate(done):
                self.assertEqual(cottage.again(), deed)
                self.assertEqual(snapshot(cottage), shots[at + 1])
            self.assertIsNone(cottage.again())
            self.at_all_numbers(cottage, done, shots)
            kinds.update(deed[0] for deed in done)
        self.assertEqual(kinds, {"build", "lay", "pull", "note", "strike", "wait", "make", "carry", "watch", "hold", "free"})

    def at_all_numbers(self, cottage, done, shots):
        for at in range(len(done) + 1):
            there = cottage.at(at)
            self.assertEqual(snapshot(there), shots[at])
            self.assertIsNone(there.again())
            there.do(("wait", 9))
            self.assertEqual(snapshot(cottage), shots[-1])
        for thing in [thing for thing in ALL if thing not in (0, 1)] + [-1, len(done) + 1, 10 ** 30, True, False]:
            self.assertIs(raised(self, NoCount, cottage.at, thing).thing, thing)

    def test_at_behind_undo(self):
        cottage = built(*BUILDING)
        cottage.undo()
        self.assertIs(raised(self, NoCount, cottage.at, 3).thing, 3)
        there = cottage.at(2)
        self.assertEqual(there, cottage)
        self.assertIsNone(there.again())
        self.assertEqual(cottage.again(), BUILDING[2])

    def test_a_new_deed_ends_again(self):
        cottage = built(*BUILDING)
        cottage.undo()
        cottage.undo()
        raised(self, NoRoom, cottage.do, ("lay", "z", 1))
        self.assertEqual(cottage.copy().again(), BUILDING[1])
        cottage.do(("wait", 1))
        self.assertIsNone(cottage.again())
        self.assertEqual(cottage.deeds(), [BUILDING[0], ("wait", 1)])

    def test_nothing_held_bars_them(self):
        cottage = built(*BUILDING, ("make", "a"), ("hold", ("fires",)), ("free", ("fires",)), ("wait", 1), ("carry", "a", "b"))
        many = cottage.count()
        shots = [snapshot(cottage)]
        for _ in range(many):
            cottage.undo()
            shots.append(snapshot(cottage))
        for shot in shots[-2::-1]:
            cottage.again()
            self.assertEqual(snapshot(cottage), shot)
        cottage = built(*BUILDING, ("make", "a"), ("note", "b", 1))
        cottage.undo()
        cottage.undo()
        self.assertEqual(cottage.again(), ("make", "a"))
        held = built(("hold", ("fits",)))
        raised(self, WouldChange, held.do, ("make", "b"))
        self.assertEqual(held.deeds(), [("hold", ("fits",))])

    def test_copies_go_on_by_themselves(self):
        cottage = built(*BUILDING, ("make", "a"), ("wait", 1))
        cottage.undo()
        other = cottage.copy()
        self.assertEqual(snapshot(other), snapshot(cottage))
        self.assertEqual(other.again(), ("wait", 1))
        self.assertEqual(cottage.count(), 4)
        other.do(("carry", "a", "b"))
        other.do(("watch", ("fits",)))
        self.assertEqual((cottage.count(), cottage.watched(), cottage.book()), (4, [], {"a": 0}))
        self.assertEqual(cottage.again(), ("wait", 1))
        cottage.do(("lay", "a", 7))
        self.assertEqual(other.woods()["a"], 2)
        self.assertIsNone(other.again())

    def test_trials(self):
        cottage = built(*BUILDING, ("make", "a"), ("wait", 1))
        cottage.undo()
        ahead = snapshot(cottage)

        def deeper(there):
            self.assertIs(there, cottage)
            there.again()
            there.do(("carry", "a", "b"))
            inner = snapshot(there)

            def inmost(same):
                same.do(("strike", "a"))
                same.undo()
                same.undo()
                same.do(("note", "c", 5))
                return ["told", same.book()]
            self.assertEqual(there.trial(inmost), ["told", {"a": 0, "c": 5}])
            self.assertEqual(snapshot(there), inner)
            self.assertIsNone(there.again())
            return there
        self.assertIs(cottage.trial(deeper), cottage)
        self.assertEqual(snapshot(cottage), ahead)
        self.assertEqual(cottage.again(), ("wait", 1))

    def test_trials_that_raise(self):
        cottage = built(*BUILDING, ("make", "a"))
        cottage.undo()
        ahead = snapshot(cottage)
        for error in (KeyError("x"), NoDoor("a", "b"), KeyboardInterrupt()):
            def work(there):
                there.undo()
                there.undo()
                there.do(("lay", "b", 5))
                raise error
            with self.assertRaises(error.__class__) as caught:
                cottage.trial(work)
            self.assertIs(caught.exception, error)
            self.assertEqual(snapshot(cottage), ahead)
        self.assertEqual(cottage.trial(lambda there: there.do(("wait", 3))), [])
        self.assertIsNone(cottage.trial(lambda there: None))
        self.assertEqual(cottage.again(), ("make", "a"))

    def test_six_trials_deep(self):
        cottage = Cottage("b", 1)

        def going(depth):
            def work(there):
                there.do(("wait", depth + 1))
                if depth < 6:
                    there.trial(going(depth + 1))
                self.assertEqual(there.count(), depth + 1)
                return there.hour()
            return work
        self.assertEqual(cottage.trial(going(0)), 1)
        self.assertEqual((cottage.count(), cottage.hour()), (0, 0))


class Kept(unittest.TestCase):
    """[130]"""

    def test_made_and_carried(self):
        for seed in range(40):
            chance = random.Random(seed)
            cottage, made = Cottage("c", 2), None
            for _ in range(25):
                rooms, book = cottage.now().rooms(), cottage.book()
                deeds = [("wait", 1), ("lay", chance.choice(rooms), 1)]
                if len(rooms) < 5:
                    deeds.append(("build", f"r{len(rooms)}", chance.choice(rooms), chance.randint(1, 3)))
                if made is None:
                    deeds.append(("make", chance.choice(rooms)))
                deeds += [("carry", one, other) for door in cottage.now().doors() for one, other in (door, door[::-1])
                          if one in book and other not in book and 0 < cottage.hour() - book[one] <= cottage.woods()[one]] * 3
                deed = chance.choice(deeds)
                cottage.do(deed)
                made = deed[1] if deed[0] == "make" else made
                if made is not None:
                    self.assertIs(cottage.answer(("fits",)), True)
                    self.assertIs(cottage.answer(("first", made)), True)

    def test_what_keeps_fitting(self):
        kept = 0
        for seed in range(60):
            chance = random.Random(seed)
            cottage, _ = Ahead().random_cottage(chance)
            if cottage.answer(("fits",)):
                rooms = cottage.now().rooms()
                firsts = [room for room in rooms if cottage.answer(("first", room))]
                for deed in [("build", "x", room, 1) for room in rooms] + [("lay", room, 2) for room in rooms] + [
                        ("strike", room) for room in cottage.book()] + [("pull", room) for room in rooms]:
                    try:
                        cottage.do(deed)
                    except (NotLeaf, IsNoted, LastRoom):
                        continue
                    if cottage.book():
                        kept += 1
                        self.assertIs(cottage.answer(("fits",)), True)
                        for room in firsts:
                            if deed != ("pull", room):
                                self.assertIs(cottage.answer(("first", room)), True)
                    cottage.undo()
        self.assertTrue(kept > 100, kept)


class Great(unittest.TestCase):
    """[132]"""

    def test_ten_rooms(self):
        chance = random.Random(7)
        cottage = Cottage("n0", 25)
        for at in range(1, 10):
            cottage.do(("build", f"n{at}", f"n{chance.randrange(at)}", 25))
        for question in [("fits",), ("fires",), ("firsts",), ("first", "n3"), ("early", "n4"), ("late", "n9"),
                         ("early", "n0"), ("first", "n8")]:
            cottage.do(("watch", question))
        for at in range(20):
            cottage.do(("note", f"n{chance.randrange(10)}", chance.randint(-60, 200)))
            cottage.undo()
        cottage.do(("note", "n1", -60))
        for at in range(20):
            for room in cottage.now().rooms():
                spans = cottage.could_note(room)
                if spans and chance.random() < 0.2:
                    cottage.do(("note", room, chance.choice(spans)[chance.randrange(2)]))
                    self.assertIs(cottage.answer(("fits",)), True)
        self.assertEqual(len(cottage.watched()), 8)
        for number in range(cottage.count() + 1):
            self.assertEqual(cottage.at(number).count(), number)

    def test_houses_made_alike(self):
        cottage = built(*BUILDING)
        self.assertEqual(cottage.now(), house_of("ab bc bd"))
        self.assertEqual(path(cottage.now(), "a", "d"), ["a", "b", "d"])


if __name__ == "__main__":
    unittest.main()
