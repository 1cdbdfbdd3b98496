"""How many fires fit a book.

COUNTS tell, by the hour at which a room is lit, in how many ways something else can be: an integer if it
does not hang on the hour, as where nothing is told, else the dict from the hours at which it is above 0.
"""

from hearths.books import need_woods_and_book
from hearths.errors import NothingTold
from hearths.houses import need_room, rooms_near
from hearths.plain import ascending
from hearths.ways import ahead_from, doors_inward


def need_told(house, woods, book):
    """Raises the errors of woods and of a book that must not be empty."""
    need_woods_and_book(house, woods, book)
    if len(book) == 0:
        raise NothingTold()


def times(one, other):
    if isinstance(one, dict) and isinstance(other, dict):
        return {hour: one[hour] * other[hour] for hour in one if hour in other}
    if isinstance(one, dict):
        return {hour: one[hour] * other for hour in one if other > 0}
    if isinstance(other, dict):
        return {hour: one * other[hour] for hour in other if one > 0}
    return one * other


def plus(one, other):
    """Both counts together; either both hang on the hour, or none."""
    if not isinstance(one, dict):
        return one + other
    both = dict(one)
    for hour in other:
        both[hour] = both.get(hour, 0) + other[hour]
    return both


def shifted_sums(counts, least, most):
    """By each hour the sum of the counts at the hours from least to most behind it (ahead of it, below 0)."""
    if not isinstance(counts, dict):
        return counts * (most - least + 1)
    sums = {}
    if len(counts) == 0:
        return sums
    many = 0
    for hour in range(min(list(counts)) - most, max(list(counts)) - least + 1):
        many += counts.get(hour + most, 0) - counts.get(hour + least - 1, 0)
        if many > 0:
            sums[hour] = many
    return sums


def noted_counts(book, room):
    """In how many ways, by its hour, a room alone has what is told of it."""
    return {book[room]: 1} if room in book else 1


def count_by_steps(ahead, book, steps):
    """How many fires with this first room fit that have each step from the least to the most of a pair."""
    ways = {room: noted_counts(book, room) for room in ahead}
    counts = {}
    for room in reversed(list(ahead)):
        counts = ways[room]
        if ahead[room] is not None:
            least, most = steps[room]
            ways[ahead[room]] = times(ways[ahead[room]], shifted_sums(counts, least, most))
    return sum(list(counts.values()))


def counts_by_first(house, woods, book):
    """The dict, ascending, from first rooms to how many fires that fit a book, not empty, begin there."""
    near = rooms_near(house)
    through = {}
    for room, far in doors_inward(house):
        counts = noted_counts(book, far)
        for further in near[far]:
            if further != room:
                counts = times(counts, through[(far, further)])
        through[(room, far)] = shifted_sums(counts, 1, woods[room])
    begun = {}
    for first in near:
        counts = noted_counts(book, first)
        for far in near[first]:
            counts = times(counts, through[(first, far)])
        begun[first] = sum(list(counts.values()))
    return {first: begun[first] for first in begun if begun[first] > 0}


def come_and_made(house, woods, alone, closed, room):
    """The pair of the counts by the hour of a room, alone telling the counts of each room alone.

    The former is of fires that come in to the house by this room, the latter of those that are made within.
    Closed are the hours, if any, at which none goes through a door, for both its directions; they are for
    counts that all hang on the hour. Such a pair is made for each branch: fire made within is made in its own
    room, or comes from one of the branches behind and goes on to all others.
    """
    near = rooms_near(house)
    ahead = ahead_from(house, room)
    coming = {}
    made = {}
    for here in reversed(list(ahead)):
        into = alone[here]
        out = {} if isinstance(into, dict) else 0
        for far in near[here]:
            if far != ahead[here]:
                hours = closed.get((here, far), {})
                onward = shifted_sums(_without(coming[far], hours), 1, woods[here])
                backward = _without(shifted_sums(made[far], -woods[far], -1), hours)
                out = plus(times(out, onward), times(into, backward))
                into = times(into, onward)
        coming[here] = into
        made[here] = plus(into, out)
    return coming[room], made[room]


def counts_of_room(house, woods, alone, closed, room):
    """The counts of all fires by the hour of a room."""
    return come_and_made(house, woods, alone, closed, room)[1]


def _without(counts, hours):
    return {hour: counts[hour] for hour in counts if hour not in hours} if len(hours) > 0 else counts


def count_fitting(house, woods, book):
    need_told(house, woods, book)
    return sum(list(counts_by_first(house, woods, book).values()))


def count_by_first(house, woods, book):
    need_told(house, woods, book)
    return counts_by_first(house, woods, book)


def hour_counts(house, woods, book, room):
    need_told(house, woods, book)
    need_room(house, room)
    alone = {here: noted_counts(book, here) for here in house.rooms()}
    return ascending(counts_of_room(house, woods, alone, {}, room))
