"""Blazes that have the hours of a book."""

from hearths.books import need_woods_and_book
from hearths.houses import need_room
from hearths.ways import ahead_from
from hearths.woods import woods_ahead


def _woods_from(house, woods, room):
    """The dict from all rooms to the woods of the rooms on the way there, but the last one."""
    return woods_ahead(ahead_from(house, room), woods)


def late_pair_of(house, woods, book):
    """The first pair of noted rooms of which the other one is too late for a blaze, None if there is none."""
    for one in sorted(list(book)):
        sums = _woods_from(house, woods, one)
        for other in sorted(list(book)):
            if book[other] > book[one] + sums[other]:
                return (one, other)
    return None


def latest_hours_by(house, woods, hours):
    """The dict, ascending, from all rooms to the latest hours that some rooms' hours, at least one, allow."""
    sums = {one: _woods_from(house, woods, one) for one in hours}
    return {room: min([hours[one] + sums[one][room] for one in hours]) for room in house.rooms()}


def blaze_of(house, woods, book):
    need_woods_and_book(house, woods, book)
    if len(book) == 0:
        return {room: 0 for room in house.rooms()}
    if late_pair_of(house, woods, book) is not None:
        return None
    return latest_hours_by(house, woods, book)


def late_pair(house, woods, book):
    need_woods_and_book(house, woods, book)
    return late_pair_of(house, woods, book)


def span_in_blazes(house, woods, book, room):
    """The pair of the least and the greatest hour of a room by a book, not empty, that some blaze has."""
    sums = _woods_from(house, woods, room)
    least = max([book[one] - sums[one] for one in book])
    return (least, latest_hours_by(house, woods, book)[room])


def blaze_hours(house, woods, book, room):
    need_woods_and_book(house, woods, book)
    need_room(house, room)
    if len(book) == 0 or late_pair_of(house, woods, book) is not None:
        return None
    return span_in_blazes(house, woods, book, room)
