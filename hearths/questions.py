"""Questions of a house that lives: what can be asked of it, and the answers by a book."""

from hearths.builtfires import fire_for
from hearths.firsthours import earliest_hours, latest_hours
from hearths.firstrooms import first_rooms
from hearths.fittings import count_fitting
from hearths.houses import is_room
from hearths.plain import is_row

OF_ALL = ("fits", "fires", "firsts")
OF_A_ROOM = ("first", "early", "late")


def is_question_of(house, thing):
    if not is_row(thing):
        return False
    if len(thing) == 1:
        return thing[0] in OF_ALL
    return len(thing) == 2 and thing[0] in OF_A_ROOM and is_room(house, thing[1])


def _hour_of(hours, room):
    return None if hours is None else hours[room]


def answer_of(house, woods, book, question):
    """The answer to a right question, None while nothing is noted."""
    if len(book) == 0:
        return None
    kind = question[0]
    if kind == "fits":
        return fire_for(house, woods, book) is not None
    if kind == "fires":
        return count_fitting(house, woods, book)
    if kind == "firsts":
        return len(first_rooms(house, woods, book))
    if kind == "first":
        return question[1] in first_rooms(house, woods, book)
    ends = earliest_hours(house, woods, book) if kind == "early" else latest_hours(house, woods, book)
    return _hour_of(ends, question[1])
