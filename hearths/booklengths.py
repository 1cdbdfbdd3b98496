"""How long the fires are warm that fit a book."""

from hearths.books import need_woods_and_book
from hearths.builtfires import spans_of
from hearths.firstrooms import fires_from
from hearths.hourspans import early_fire_in, late_fire_in
from hearths.houses import need_room
from hearths.lengths import length_of, need_length
from hearths.ways import ahead_from


def _with_hour(book, room, hour):
    """The spans of a book, but for one room so that it has this hour."""
    spans = spans_of(book)
    spans[room] = (hour, hour)
    return spans


def _least_length(ahead, woods, book, first, hour):
    return length_of(woods, early_fire_in(ahead, woods, _with_hour(book, first, hour)))


def _ends_of_lengths(house, woods, book, first):
    """The pair of the least and the greatest length of the fires with this first room that fit, or None."""
    fires = fires_from(house, woods, book, first)
    if fires is None:
        return None
    ahead = ahead_from(house, first)
    soonest, latest = fires[0][first], fires[1][first]
    longest = late_fire_in(ahead, woods, _with_hour(book, first, soonest))
    return (_least_length(ahead, woods, book, first, latest), length_of(woods, longest))


def lengths_by(house, woods, book, first):
    need_woods_and_book(house, woods, book)
    need_room(house, first)
    return _ends_of_lengths(house, woods, book, first)


def lengths_of_book(house, woods, book):
    need_woods_and_book(house, woods, book)
    ends = [_ends_of_lengths(house, woods, book, first) for first in house.rooms()]
    found = [pair for pair in ends if pair is not None]
    if not found:
        return None
    return (min([least for least, _ in found]), max([most for _, most in found]))


def fitting_fire(house, woods, book, length):
    need_woods_and_book(house, woods, book)
    need_length(length)
    for first in house.rooms():
        ends = _ends_of_lengths(house, woods, book, first)
        if ends is not None and ends[0] <= length <= ends[1]:
            return _fire_of_length(house, woods, book, first, length)
    return None


def _fire_of_length(house, woods, book, first, length):
    """As its first hour goes on by one, the least length of a fire gets less by one at most.

    So the first of these hours at which it is no more than length has fires of just this one: that which
    has all rooms as late as they can be out by then.
    """
    ahead = ahead_from(house, first)
    early, late = fires_from(house, woods, book, first)
    low, high = early[first], late[first]
    while low < high:
        middle = (low + high) // 2
        if _least_length(ahead, woods, book, first, middle) <= length:
            high = middle
        else:
            low = middle + 1
    spans = {room: (low, low + length - woods[room]) for room in ahead}
    for room, span in _with_hour(book, first, low).items():
        spans[room] = span
    return late_fire_in(ahead, woods, spans)
