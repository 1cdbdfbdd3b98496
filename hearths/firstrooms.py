"""First rooms of the fires that fit a book."""

from hearths.books import need_woods_and_book
from hearths.builtfires import spans_of
from hearths.hourspans import early_fire_in, firsts_within, late_fire_in, pair_against
from hearths.houses import need_room
from hearths.twohours import seen_from
from hearths.ways import ahead_from


def first_paper(house, woods, book, first):
    need_woods_and_book(house, woods, book)
    need_room(house, first)
    if pair_against(ahead_from(house, first), woods, spans_of(book)) is None:
        return None
    seen = seen_from(house, woods, first)
    noted = sorted(list(book))
    for at, one in enumerate(noted):
        for other in noted[at + 1:]:
            least, most = seen.hours_apart(one, other)
            if not least <= book[other] - book[one] <= most:
                return (one, other)
    return None


def fires_from(house, woods, book, first):
    """The pair of the earliest and the latest fire with a first room that fit, None if there are none."""
    ahead = ahead_from(house, first)
    spans = spans_of(book)
    if pair_against(ahead, woods, spans) is not None:
        return None
    return (early_fire_in(ahead, woods, spans), late_fire_in(ahead, woods, spans))


def fires_by_first(house, woods, book):
    """The dict, ascending, from the first rooms of fires that fit to what fires_from tells of them."""
    fires = {first: fires_from(house, woods, book, first) for first in house.rooms()}
    return {first: fires[first] for first in fires if fires[first] is not None}


def early_from(house, woods, book, first):
    need_woods_and_book(house, woods, book)
    need_room(house, first)
    fires = fires_from(house, woods, book, first)
    return None if fires is None else fires[0]


def late_from(house, woods, book, first):
    need_woods_and_book(house, woods, book)
    need_room(house, first)
    fires = fires_from(house, woods, book, first)
    return None if fires is None else fires[1]


def hours_from(house, woods, book, first, room):
    need_woods_and_book(house, woods, book)
    need_room(house, first)
    need_room(house, room)
    if len(book) == 0:
        return (None, None)
    fires = fires_from(house, woods, book, first)
    return None if fires is None else (fires[0][room], fires[1][room])


def first_rooms(house, woods, book):
    need_woods_and_book(house, woods, book)
    return firsts_within(house, woods, spans_of(book))


def begin_hours(house, woods, book):
    need_woods_and_book(house, woods, book)
    if len(book) == 0:
        return {first: (None, None) for first in house.rooms()}
    fires = fires_by_first(house, woods, book)
    return {first: (early[first], late[first]) for first, (early, late) in fires.items()}


def door_ways(house, woods, book):
    """First rooms hang together: there are some behind a door just if the room right behind it is one."""
    firsts = first_rooms(house, woods, book)
    if len(firsts) == 0:
        return None
    ahead = ahead_from(house, firsts[0])
    ways = {}
    for one, other in house.doors():
        near, far = (one, other) if ahead[other] == one else (other, one)
        ways[(one, other)] = None if far in firsts else (near, far)
    return ways
