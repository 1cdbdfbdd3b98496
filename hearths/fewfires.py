"""In how many rooms fire can have been made in the blazes that have the hours of a book.

LOTS are some numbers of made rooms, kept as the bits of an integer.
"""

from hearths.blazebooks import late_pair_of, span_in_blazes
from hearths.books import need_woods_and_book
from hearths.errors import BadNumber
from hearths.plain import is_from_one
from hearths.ways import ahead_from


def _added_lots(one, other):
    """The sums of a number of the one lot and one of the other."""
    sums = 0
    while one > 0:
        if one & 1:
            sums = sums | other
        one = one >> 1
        other = other << 1
    return sums


def _lots_through(woods, room, before, hour, table):
    """What a branch adds to a room ahead, lit at an hour: the lots if its room is not earlier, and if it is.

    The table has the lots of the branch by the hours of its room: with an earlier one behind it, and without.
    """
    not_earlier = 0
    earlier = 0
    for then, (lit, unlit) in table.items():
        if hour < then <= hour + woods[before]:
            not_earlier = not_earlier | lit | unlit
        elif then == hour:
            not_earlier = not_earlier | lit | (unlit << 1)
        elif hour - woods[room] <= then < hour:
            earlier = earlier | lit | (unlit << 1)
    return not_earlier, earlier


def _with_branch(table, woods, room, before, far_table):
    """The table of a room ahead with the branch behind it added."""
    added = {}
    for hour, (lit, unlit) in table.items():
        not_earlier, earlier = _lots_through(woods, room, before, hour, far_table)
        lots = _added_lots(lit, not_earlier | earlier) | _added_lots(unlit, earlier)
        added[hour] = (lots, _added_lots(unlit, not_earlier))
    return added


def _lots_by_hour(house, woods, book, room):
    """The dict from the hours of a room to the lots of made rooms in blazes that have a book, not empty."""
    ahead = ahead_from(house, room)
    tables = {}
    for here in ahead:
        least, most = span_in_blazes(house, woods, book, here)
        tables[here] = {hour: (0, 1) for hour in range(least, most + 1)}
    for here in reversed(list(ahead)):
        before = ahead[here]
        if before is not None:
            tables[before] = _with_branch(tables[before], woods, here, before, tables[here])
    return {hour: lit | (unlit << 1) for hour, (lit, unlit) in tables[room].items()}


def _told_book(house, book):
    """A book, or of an empty one the hour 0 of the first room: moving a blaze does not change its made rooms."""
    return dict(book) if len(book) > 0 else {house.rooms()[0]: 0}


def _numbers(house, woods, book):
    """The ascending list of the numbers of made rooms in blazes that have a book, not empty."""
    if late_pair_of(house, woods, book) is not None:
        return []
    noted = min(list(book))
    lots = _lots_by_hour(house, woods, book, noted)[book[noted]]
    return [number for number in range(1, len(house) + 1) if (lots >> number) & 1]


def fire_numbers(house, woods, book):
    need_woods_and_book(house, woods, book)
    return _numbers(house, woods, _told_book(house, book))


def few_blaze(house, woods, book, number):
    need_woods_and_book(house, woods, book)
    if not is_from_one(number):
        raise BadNumber(number)
    blaze = _told_book(house, book)
    if number not in _numbers(house, woods, blaze):
        return None
    for room in house.rooms():
        lots = _lots_by_hour(house, woods, blaze, room)
        blaze[room] = min([hour for hour in lots if (lots[hour] >> number) & 1])
    return {room: blaze[room] for room in house.rooms()}
