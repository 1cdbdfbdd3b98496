import importlib
import inspect
import unittest

from hearths.branches import Branch
from hearths.cottages import Cottage
from hearths.fires import earliest_room
from hearths.houses import House
from tests.brute import house_of
from tests.test_cottages import BUILDING, CARRYING, built
from tests.test_fires import F, H, W
from tests.test_interface import METHODS, listed_functions

ONE, OTHER = Branch(house_of("rs"), "r", {"r": 1, "s": 1}, {"s": 5}), Branch(house_of("tu"), "t", {"t": 2, "u": 1}, {})
SAYINGS = [("a", "d", 3, None), ("a", "c", None, 4)]
FAR = House(["x", "y"], [("x", "y")])
SHUT = {("a", "b"): [5]}


def looker(pairs):
    if len(pairs) < 4:
        return "abcd"[len(pairs)]
    return ("first", earliest_room(H, dict(pairs)))


USUAL = {
    "house": H, "woods": W, "book": {"c": 7, "d": 9}, "first": "a", "room": "b", "one": "a", "other": "b", "third": "d",
    "thing": F, "fire": F, "some": ["a", "c"], "name": "e", "names": {"a": "d", "b": "c", "c": "b", "d": "a"}, "hours": 4,
    "spans": {"a": (0, 4), "d": (3, 3)}, "claims": [("a", 0, 4), ("c", 1, 1), ("d", 9, 9)], "steps": {"b": 2, "c": 1, "d": 3},
    "number": 3, "chooser": lambda many: many // 2, "length": 5, "hour": 6, "prices": {"a": 1, "b": 2, "c": 3, "d": 4},
    "sayings": SAYINGS, "saying": ("b", "d", 1, 3), "shut": SHUT, "drafts": SHUT, "opens": {("b", "d"): (4, 6)}, "whole": F,
    "blaze": {"a": 0, "b": 1, "c": 1, "d": 3}, "made": {"a": 0, "c": 2}, "rim": "r", "branch": ONE, "wood": 2, "least": 3,
    "most": 4, "last": 8, "watchers": ["a", "c"], "looker": looker, "books": [F], "back": 1,
    "tour": ["a", "b", "c", "d"], "chance": (1, 2), "cottage": built(*BUILDING, *CARRYING), "text": "hour 0\nroom a 1\n",
    "order": [["a"], ["b"], ["c", "d"]], "many": 2, "far": "x"}
OWN = {
    "part_of": {"some": ["a", "b"]}, "behind": {"other": "c"}, "meeting": {"other": "c"}, "joined_by": {"one": H, "other": FAR},
    "is_woods": {"thing": W}, "is_book": {"thing": {"a": 1}}, "is_paper": {"thing": ["c", "d"]},
    "is_span_paper": {"thing": ["a", "d"]}, "is_ring_by": {"thing": [("a", "b", 2)]}, "is_shut": {"thing": SHUT},
    "is_drafty_paper": {"thing": ["c", "d"]},
    "hung": {"one": ONE, "room": "s", "other": OTHER}, "meeting_hours": {"one": ONE, "other": OTHER},
    "have_fire": {"one": ONE, "other": OTHER}, "parting_hours": {"one": ONE, "other": OTHER},
    "is_parting": {"one": ONE, "other": OTHER, "thing": (2, 1)}, "span_from": {"spans": [(5, 5)]},
    "slack": {"some": ["c"]}, "apart_worth": {"thing": [("c", "d")]}, "is_tour": {"thing": ["a", "b", "c", "d"]},
    "is_walk": {"thing": ["a", "b", "c", "b", "d"]}, "is_order": {"thing": [["a"]]}, "worth_of_row": {"thing": ["b", "c"]},
    "fitting_number": {"book": {"c": 7, "d": 9}}, "wanting_pair": {"book": {"a": 0, "c": 9}, "room": "a"},
    "least_wood": {"book": {"a": 0, "c": 9}, "room": "a"}, "two_fires": {"book": {"d": 3}}, "kept_apart": {"other": "d"},
    "cut_off": {"room": "a", "other": "b"}, "closed_branch": {"least": 3, "most": 5}, "bounds": {"other": "c"},
    "row_by": {"other": "d"}, "few_blaze": {"number": 2}, "tour_numbered": {"number": 1},
    "rooms_for": {"hours": 1}, "paper_for": {"book": {"a": 0, "b": 9}}, "first_paper": {"first": "d"},
    "inner_fire": {"hour": 4}, "outer_fire": {"hour": 5}, "outlasting": {"room": "a"}, "too_far": {"length": 2},
    "unsafe_at": {"shut": {("b", "c"): [3]}}, "span_paper": {"spans": {"a": (0, 0), "b": (9, 9)}},
    "late_pair": {"book": {"a": 0, "c": 6}}, "made_late": {"made": {"a": 0, "c": 3}},
    "two_paper": {"book": {"a": 0, "b": 3}}, "late_in_tour": {"tour": ["b", "a", "c", "d"]}, "short_room": {"first": "b"},
    "tour_number": {"tour": ["a", "b", "d", "c"]}, "order_fault": {"order": [["a"], ["c"], ["b"], ["d"]]},
    "no_woods": {"books": [{"a": 0, "b": 1, "c": 0, "d": 2}]}, "broken_ones": {"sayings": [("a", "b", 9, None)]},
    "ring_by": {"sayings": [("a", "b", 9, None)]}, "shortest_clash": {"sayings": [("a", "b", 9, None)]},
    "drafty_paper": {"book": {"a": 4, "b": 5}}, "open_fire": {"book": {"a": 1}}, "blown_out": {"drafts": {("a", "b"): [6]}},
    "late_door": {"whole": {"a": 0, "b": 9, "c": 9, "d": 9}}, "why_two": {"fire": {"a": 3}, "far": {"b": 9, "c": 10, "d": 11}}}


def plain(told):
    """What is told, as it can be compared and as it is written, orders of dicts with it."""
    if isinstance(told, House):
        return ("House", told.rooms(), told.doors())
    if isinstance(told, Branch):
        return ("Branch", plain(told.house()), told.rim(), told.woods(), told.book())
    if isinstance(told, Cottage):
        return ("Cottage", plain(told.now()), told.woods(), told.book(), told.hour(), told.watched(), told.deeds())
    if isinstance(told, (list, tuple)):
        return [told.__class__.__name__] + [plain(part) for part in told]
    return repr(told)


def by_names(call, parameters, things):
    """What a call tells with its parameters by their names, the last one first, and some in between."""
    turned = dict(reversed(list(zip(parameters, things))))
    mixed = dict(list(zip(parameters, things))[:0:-1])
    return [call(**turned)] + ([call(things[0], **mixed)] if things else [])


class ByNames(unittest.TestCase):
    """[2]: over the whole program"""

    def test_functions(self):
        seen = 0
        for place, name, parameters in listed_functions():
            call = getattr(importlib.import_module(f"hearths.{place}"), name)
            known = dict(USUAL, **OWN.get(name, {}))
            things = [known[parameter] for parameter in parameters]
            placed = plain(call(*things))
            seen += placed not in ("None", "False")
            for told in by_names(call, parameters, things):
                self.assertEqual(plain(told), placed, name)
        self.assertTrue(seen > 205, seen)

    def test_classes(self):
        made = {"House": (["b", "a"], [("b", "a")]), "Branch": (house_of("rs"), "r", {"r": 1, "s": 1}, {"s": 5}),
                "Cottage": ("b", 3)}
        for (place, name), (made_of, _) in METHODS.items():
            kind = getattr(importlib.import_module(f"hearths.{place}"), name)
            parameters = list(inspect.signature(kind).parameters)
            for told in by_names(kind, parameters, made[name]):
                self.assertEqual(plain(told), plain(kind(*made[name])))

    def test_methods(self):
        things = {"do": ("strike", "d"), "is_question": ("first", "a"), "answer": ("late", "b"), "would": ["strike", "a"],
                  "could_note": "d", "at": 4, "trial": lambda cottage: cottage.do(("wait", 7))}
        for name, thing in things.items():
            parameter = list(inspect.signature(vars(Cottage)[name]).parameters)[1]
            placed, named = (built(*BUILDING, *CARRYING, ("watch", ("fires",))) for _ in range(2))
            told = plain(getattr(placed, name)(thing))
            self.assertEqual(plain(getattr(named, name)(**{parameter: thing})), told)
            self.assertEqual(plain(named), plain(placed))


if __name__ == "__main__":
    unittest.main()
