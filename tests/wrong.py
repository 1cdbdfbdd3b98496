"""Wrong things for each kind of parameter of the house H of [14], and a look at which error is raised ahead."""

from hearths.houses import House
from tests.brute import house_of, sample_of_objects
from tests.test_fires import BAD_WOODS, F, W
from tests.test_ways import raised

H = house_of("ab bc bd")
ALL = sample_of_objects(H)


def is_number(thing):
    return isinstance(thing, int) and not isinstance(thing, bool)


WOODS = BAD_WOODS + ALL
ROOMS = ALL
BOOKS = [thing for thing in ALL if thing != {}] + [{"a": True}, {"a": None}, {"a": "1"}, {"b": 1, "x": 2}, {"a": [1]}]
FIRES = ALL + [dict(F, d=6), dict(F, b=7), {"a": 4, "b": 6, "c": 7}, dict(F, c=True), dict(F, x=1), dict(F, c=6)]
INTEGERS = [thing for thing in ALL if not is_number(thing)]
NUMBERS = [thing for thing in ALL if not is_number(thing) or thing < 0]
FROM_ONE = [thing for thing in ALL if not is_number(thing) or thing < 1]
NO_LISTS = [(thing, 0) for thing in ALL if not isinstance(thing, (list, tuple))]
SOME = NO_LISTS + [(["c", thing, "c"], 1) for thing in ALL] + [(["a", "b", "a", "zz"], 2), (("d", "d"), 1)]


def kept_name(kind):
    """Under which name errors of a class keep what they are made with."""
    return kind.__init__.__code__.co_varnames[1]


def check_errors(test, call, good, rows):
    """Whether a call, right with good, raises the error of each row, whatever is wrong that stands in later rows.

    Rows are triples (place, error, things), in the order in which the errors are due; with each thing of an
    error that keeps an index stands this.
    """
    call(*good)
    for at, (place, kind, bads) in enumerate(rows):
        for bad in bads:
            thing, index = bad if kept_name(kind) == "index" else (bad, None)
            for spoilt in (False, True):
                things = list(good)
                for later, other, others in rows[at + 1:] if spoilt else []:
                    worst = others[0]
                    things[later] = worst[0] if kept_name(other) == "index" else worst
                things[place] = thing
                error = raised(test, kind, call, *things)
                if index is None:
                    test.assertIs(getattr(error, kept_name(kind)), thing)
                else:
                    test.assertEqual(error.index, index)


def in_turns(test, calls):
    """Whether each call tells the same again when all are called in turns, also behind changes of what was told."""
    told = [repr(call()) for call in calls]
    for _ in range(2):
        for call, was in zip(calls, told):
            answer = call()
            test.assertEqual(repr(answer), was)
            if isinstance(answer, (list, dict)):
                answer.clear()
    for call, was in reversed(list(zip(calls, told))):
        test.assertEqual(repr(call()), was)


def turned_dict(table):
    """The same dict, its keys in the other order."""
    return dict(reversed(list(table.items())))


def with_lists(thing):
    """The same thing, with lists for tuples and tuples for lists, at every depth but in keys."""
    if isinstance(thing, tuple):
        return [with_lists(part) for part in thing]
    if isinstance(thing, list):
        return tuple(with_lists(part) for part in thing)
    if isinstance(thing, dict):
        return {key: with_lists(part) for key, part in thing.items()}
    return thing


def one_room():
    return House(["a"], [])
