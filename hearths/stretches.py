"""Stretches of rooms that want wood together, and the fewest hours of wood by which a book has a fire.

All is seen from a first room: a stretch begins at a room and goes on further from the first one.
"""

from hearths.books import need_book
from hearths.houses import need_room
from hearths.plain import is_row
from hearths.ways import ahead_from, doors_ahead, way_back


class Stretch:
    """Of two rooms (one, other) of a book the part of a way that lights other, and for how many hours it must."""

    def __init__(self, one, other, part, wants):
        self.one = one
        self.other = other
        self.part = part
        self.wants = wants


def stretches_of(house, book, first):
    """The list of the stretches of all pairs of a book, ascending by these; the part of each from far to near."""
    ahead = ahead_from(house, first)
    doors = doors_ahead(ahead)
    noted = sorted(list(book))
    stretches = []
    for one in noted:
        back = {room: True for room in way_back(ahead, one)}
        for other in noted:
            if other != one:
                way = way_back(ahead, other)
                met = [room for room in way if room in back][0]
                wants = book[other] - book[one] + doors[one] - doors[met]
                stretches.append(Stretch(one, other, way[1:way.index(met) + 1], wants))
    return stretches


def _need_book_and_first(house, book, first):
    need_book(house, book)
    need_room(house, first)


def _hours_above(stretches, ahead):
    """The pair of the dict from all rooms to the fewest hours of wood above one, and that to what asks for them.

    The deepest stretches come first. What one lacks is laid on where it begins: each later stretch with one of
    its rooms has this room, too. The latter dict has the stretch for which wood was laid on at a room.
    """
    beginning = {room: [] for room in ahead}
    for stretch in stretches:
        if stretch.part:
            beginning[stretch.part[-1]].append(stretch)
    above = {room: 0 for room in ahead}
    asking = {}
    for room in reversed(list(ahead)):
        for stretch in beginning[room]:
            lacking = stretch.wants - sum([1 + above[far] for far in stretch.part])
            if lacking > 0:
                above[room] += lacking
                asking[room] = stretch
    return above, asking


def _can_be(stretches):
    """Whether there are woods at all: a stretch of no room cannot have any."""
    return all([stretch.part or stretch.wants <= 0 for stretch in stretches])


def fewest_hours(house, book, first):
    _need_book_and_first(house, book, first)
    stretches = stretches_of(house, book, first)
    if not _can_be(stretches):
        return None
    above, _ = _hours_above(stretches, ahead_from(house, first))
    return (sum(list(above.values())), {room: 1 + above[room] for room in house.rooms()})


def apart_pairs(house, book, first):
    """From the first room on, those that ask for wood at a room that none ahead of them has: so all wood is asked."""
    _need_book_and_first(house, book, first)
    stretches = stretches_of(house, book, first)
    if not _can_be(stretches):
        return None
    ahead = ahead_from(house, first)
    _, asking = _hours_above(stretches, ahead)
    taken = {}
    pairs = []
    for room in ahead:
        if room in asking and room not in taken:
            pairs.append((asking[room].one, asking[room].other))
            for far in asking[room].part:
                taken[far] = True
    return pairs


def apart_worth(house, book, first, thing):
    _need_book_and_first(house, book, first)
    if not is_row(thing) or not all([_is_pair_of(book, pair) for pair in thing]):
        return None
    by_pairs = {(stretch.one, stretch.other): stretch for stretch in stretches_of(house, book, first)}
    taken = {}
    worth = 0
    for one, other in thing:
        stretch = by_pairs[(one, other)]
        if not stretch.part or any([room in taken for room in stretch.part]):
            return None
        for room in stretch.part:
            taken[room] = True
        worth += stretch.wants - len(stretch.part)
    return worth


def _is_pair_of(book, thing):
    """Whether a thing is a pair of unlike rooms of a book."""
    if not is_row(thing) or len(thing) != 2:
        return False
    return all([isinstance(room, str) and room in book for room in thing]) and thing[0] != thing[1]
