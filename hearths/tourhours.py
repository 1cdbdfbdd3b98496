"""At which hours rooms are lit in tours in time, and tours in time that fit a book.

COUNTS are what fittings has: by the hour of a room, in how many ways something can be.
"""

from itertools import combinations
from math import factorial

from hearths.books import need_book
from hearths.errors import NothingTold
from hearths.fittings import noted_counts, plus, times
from hearths.houses import need_room, rooms_near
from hearths.plain import ascending
from hearths.tours import need_woods_and_back
from hearths.toursfrom import can_be_last, last_branches, orders_of, sizes_behind
from hearths.ways import ahead_from, doors_inward, way_back


def _ahead_of(branches, lasts, sizes, far):
    """By how many rooms are in the branches ahead of one of them: in how many orders of all they are so many.

    Of the others all sets are counted by how many they are, how many of them can be last, and their rooms.
    """
    sets = {(0, 0, 0): 1}
    for other in branches:
        if other != far:
            more = dict(sets)
            for (many, fit, rooms), ways in sets.items():
                key = (many + 1, fit + (1 if other in lasts else 0), rooms + sizes[other])
                more[key] = more.get(key, 0) + ways
            sets = more
    fitting = len([other for other in lasts if other != far])
    counts = {}
    for (many, fit, rooms), ways in sets.items():
        behind = len(branches) - 1 - many
        if behind == 0:
            orders = 1 if far in lasts else 0
        else:
            orders = (fitting - fit) * factorial(behind - 1)
        counts[rooms] = counts.get(rooms, 0) + ways * factorial(many) * orders
    return counts


def lit_counts(house, woods, back, first, room):
    need_woods_and_back(house, woods, back)
    need_room(house, first)
    need_room(house, room)
    ahead = ahead_from(house, first)
    pairs = last_branches(woods, back, ahead)
    sizes = sizes_behind(ahead)
    way = way_back(ahead, room)
    counts = {len(way) - 1: 1}
    for here, (branches, lasts) in pairs.items():
        if here not in way[1:]:
            counts = {hour: ways * orders_of(branches, lasts) for hour, ways in counts.items()}
    for far in way[:-1]:
        branches, lasts = pairs[ahead[far]]
        counts = _added(counts, _ahead_of(branches, lasts, sizes, far), 1 + back)
    return ascending({hour: counts[hour] for hour in counts if counts[hour] > 0})


def _added(counts, rooms, hours):
    """The counts by the sums of hours and of so many hours for each room of others."""
    added = {}
    for hour, ways in counts.items():
        for many, orders in rooms.items():
            key = hour + many * hours
            added[key] = added.get(key, 0) + ways * orders
    return added


def _moved(counts, hours):
    """The counts by an hour that is so many hours ahead."""
    if not isinstance(counts, dict):
        return counts
    return {hour - hours: many for hour, many in counts.items()}


class Orders:
    """How tours go on through the branches of a room, by the hour at which it is lit.

    The sets are the dict from all tuples of branches, ascending, to the counts of the ways in which just these
    come first, all that is noted of them and of the room being so, the last one of all being come to in time.
    """

    def __init__(self, own, branches, lasts, delays, counts):
        self.branches = tuple(branches)
        self.delays = delays
        self.counts = counts
        self.sets = {(): own}
        self.lasts = lasts
        for many in range(1, len(branches) + 1):
            for some in combinations(self.branches, many):
                parts = [self.with_last(some, far) for far in some]
                ways = parts[0]
                for part in parts[1:]:
                    ways = plus(ways, part)
                self.sets[some] = ways

    def with_last(self, some, far):
        """The counts of the ways through some branches, one of them being the last of these."""
        rest = tuple([other for other in some if other != far])
        fits = 0 if len(some) == len(self.branches) and far not in self.lasts else 1
        later = _moved(self.counts[far], self.delay(rest))
        return times(times(self.sets[rest], later), fits)

    def delay(self, some):
        """By how many hours the next branch behind some is lit behind the room."""
        return 1 + sum([self.delays[far] for far in some])

    def all_ways(self):
        return self.sets[self.branches]

    def order_at(self, hour):
        """One of the orders there are by an hour of the room, as pairs of each branch and its hour."""
        order = []
        some = self.branches
        while some:
            far = [other for other in some if _count_at(self.with_last(some, other), hour) > 0][0]
            some = tuple([other for other in some if other != far])
            order.append((far, hour + self.delay(some)))
        return order[::-1]


def _count_at(counts, hour):
    return counts.get(hour, 0) if isinstance(counts, dict) else counts


def _orders_by_book(house, woods, back, book):
    """The dict to the Orders of each room as one comes by a door (room ahead, room), or from None."""
    near = rooms_near(house)
    sizes = {}
    orders = {}
    for ahead, room in doors_inward(house) + [(None, first) for first in near]:
        branches = [far for far in near[room] if far != ahead]
        behind = {far: sizes[(room, far)] for far in branches}
        sizes[(ahead, room)] = 1 + sum(list(behind.values()))
        lasts = can_be_last(woods[room], back, branches, behind)
        delays = {far: (1 + back) * behind[far] for far in branches}
        counts = {far: orders[(room, far)].all_ways() for far in branches}
        orders[(ahead, room)] = Orders(noted_counts(book, room), branches, lasts, delays, counts)
    return orders


def _tour_at(orders, ahead, room, hour):
    """The rooms of a tour from a room on that is lit at an hour."""
    tour = [room]
    for far, later in orders[(ahead, room)].order_at(hour):
        tour.extend(_tour_at(orders, room, far, later))
    return tour


def _need_told_tour(house, woods, back, book):
    need_woods_and_back(house, woods, back)
    need_book(house, book)
    if len(book) == 0:
        raise NothingTold()


def count_by_book(house, woods, back, book):
    _need_told_tour(house, woods, back, book)
    orders = _orders_by_book(house, woods, back, book)
    return sum([sum(list(orders[(None, first)].all_ways().values())) for first in house.rooms()])


def tour_by_book(house, woods, back, book):
    _need_told_tour(house, woods, back, book)
    orders = _orders_by_book(house, woods, back, book)
    for first in house.rooms():
        begins = list(orders[(None, first)].all_ways())
        if begins:
            return (min(begins), _tour_at(orders, None, first, min(begins)))
    return None
