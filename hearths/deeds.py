"""Deeds of a house that lives: their forms, and what is behind them.

A STATE is the tuple (house, woods, book, hour, asked), asked being the tuple of the pairs (question, whether it
is held) of the watched questions. States are never changed: each deed makes a new one.
"""

from hearths.errors import (BadDeed, BadQuestion, BurntOut, InUse, IsNoted, IsWatched, LastRoom, NoDoor, NotLeaf,
                            NotNoted, NotWatched, TakenRoom, TooSoon)
from hearths.houses import beside, is_room, need_room
from hearths.otherhouses import built_on, part_of
from hearths.plain import is_from_one, is_integer, is_name, is_row
from hearths.questions import is_question_of

FORMS = {"build": ("name", "name", "many"), "lay": ("name", "many"), "pull": ("name",), "note": ("name", "hour"),
         "strike": ("name",), "wait": ("many",), "make": ("name",), "carry": ("name", "name"), "watch": ("thing",),
         "hold": ("thing",), "free": ("thing",)}


def _is_part(form, thing):
    if form == "name":
        return is_name(thing)
    if form == "many":
        return is_from_one(thing)
    return form == "thing" or is_integer(thing)


def _is_deed(thing):
    if not is_row(thing) or len(thing) == 0 or not isinstance(thing[0], str) or thing[0] not in FORMS:
        return False
    forms = FORMS[thing[0]]
    if len(thing) != len(forms) + 1:
        return False
    return all([_is_part(form, part) for form, part in zip(forms, thing[1:])])


def kept_deed(deed):
    """A right deed as it is kept: tuples at every depth."""
    return tuple([tuple(part) if is_row(part) else part for part in deed])


def _with(table, room, number):
    """The same dict, new, with one number more or another one."""
    more = dict(table)
    more[room] = number
    return more


def _without(table, room):
    return {far: table[far] for far in table if far != room}


def _build(state, deed):
    house, woods, book, hour, asked = state
    _, name, at, wood = deed
    if is_room(house, name):
        raise TakenRoom(name)
    return (built_on(house, at, name), _with(woods, name, wood), book, hour, asked)


def _laid(state, deed):
    house, woods, book, hour, asked = state
    _, room, many = deed
    need_room(house, room)
    return (house, _with(woods, room, woods[room] + many), book, hour, asked)


def _pull(state, deed):
    house, woods, book, hour, asked = state
    name = deed[1]
    need_room(house, name)
    if len(house) == 1:
        raise LastRoom()
    if len(beside(house, name)) > 1:
        raise NotLeaf(name)
    if name in book:
        raise IsNoted(name)
    left = part_of(house, [room for room in house.rooms() if room != name])
    for question, _ in asked:
        if not is_question_of(left, question):
            raise InUse(question)
    return (left, _without(woods, name), book, hour, asked)


def _note(state, deed):
    house, woods, book, hour, asked = state
    _, room, noted = deed
    need_room(house, room)
    return (house, woods, _with(book, room, noted), hour, asked)


def _strike(state, deed):
    house, woods, book, hour, asked = state
    room = deed[1]
    need_room(house, room)
    if room not in book:
        raise NotNoted(room)
    return (house, woods, _without(book, room), hour, asked)


def _wait(state, deed):
    house, woods, book, hour, asked = state
    return (house, woods, book, hour + deed[1], asked)


def _make(state, deed):
    house, woods, book, hour, asked = state
    need_room(house, deed[1])
    if book:
        raise IsNoted(min(list(book)))
    return (house, woods, _with(book, deed[1], hour), hour, asked)


def _carry(state, deed):
    house, woods, book, hour, asked = state
    _, one, other = deed
    need_room(house, one)
    need_room(house, other)
    if other not in beside(house, one):
        raise NoDoor(one, other)
    if other in book:
        raise IsNoted(other)
    if one not in book:
        raise NotNoted(one)
    if book[one] >= hour:
        raise TooSoon(one)
    if hour - book[one] > woods[one]:
        raise BurntOut(one)
    return (house, woods, _with(book, other, hour), hour, asked)


def _question_in(state, deed):
    """The question of a deed, as a tuple."""
    if not is_question_of(state[0], deed[1]):
        raise BadQuestion(deed[1])
    return tuple(deed[1])


def _watch(state, deed):
    house, woods, book, hour, asked = state
    question = _question_in(state, deed)
    if question in [other for other, _ in asked]:
        raise IsWatched(question)
    return (house, woods, book, hour, asked + ((question, False),))


def _hold(state, deed):
    house, woods, book, hour, asked = state
    question = _question_in(state, deed)
    if (question, True) in asked:
        raise IsWatched(question)
    if (question, False) not in asked:
        asked = asked + ((question, False),)
    return (house, woods, book, hour, tuple([(other, held or other == question) for other, held in asked]))


def _free(state, deed):
    house, woods, book, hour, asked = state
    question = _question_in(state, deed)
    if question not in [other for other, _ in asked]:
        raise NotWatched(question)
    return (house, woods, book, hour, tuple([(other, held) for other, held in asked if other != question]))


DONE = {"build": _build, "lay": _laid, "pull": _pull, "note": _note, "strike": _strike, "wait": _wait, "make": _make,
        "carry": _carry, "watch": _watch, "hold": _hold, "free": _free}


def state_behind(state, deed):
    """The state behind a deed; raises all errors of deeds but WouldChange."""
    if not _is_deed(deed):
        raise BadDeed(deed)
    action = DONE[deed[0]]
    return action(state, deed)
