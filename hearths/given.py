"""Chances given a book, all fires that fit it being as likely.

COUNTS are what fittings has: by the hour of a room, in how many ways something can be.
"""

from hearths.builtfires import paper_for
from hearths.errors import NoneFits
from hearths.firechances import ahead_of_gaps, chances_of, mean_of, need_door, need_two, one_side, rooms_at
from hearths.fittings import come_and_made, counts_by_first, counts_of_room, need_told, noted_counts, plus, times
from hearths.fittings import shifted_sums
from hearths.houses import need_room
from hearths.otherhouses import part_of
from hearths.plain import lowest_terms
from hearths.ways import ahead_from, way_back


def need_fitting(house, woods, book):
    """Raises the errors of woods and of a book, NothingTold of an empty one, NoneFits if no fire fits."""
    need_told(house, woods, book)
    paper = paper_for(house, woods, book)
    if paper is not None:
        raise NoneFits(paper)


def _alone(house, book):
    """The dict from all rooms to the counts of each alone."""
    return {room: noted_counts(book, room) for room in house.rooms()}


def counts_by_hour(house, woods, book, room):
    """The dict from the hours of a room to how many fires that fit have them."""
    return counts_of_room(house, woods, _alone(house, book), {}, room)


def first_given(house, woods, book):
    need_fitting(house, woods, book)
    begun = counts_by_first(house, woods, book)
    return chances_of(begun, sum(list(begun.values())))


def door_given(house, woods, book, one, other):
    need_fitting(house, woods, book)
    need_door(house, one, other)
    begun = counts_by_first(house, woods, book)
    here = [begun.get(room, 0) for room in one_side(house, one, other)]
    return lowest_terms(sum(here), sum(list(begun.values())))


def hour_given(house, woods, book, room):
    need_fitting(house, woods, book)
    need_room(house, room)
    counts = counts_by_hour(house, woods, book, room)
    return chances_of(counts, sum(list(counts.values())))


def mean_given(house, woods, book):
    need_fitting(house, woods, book)
    return {room: mean_of(counts_by_hour(house, woods, book, room)) for room in house.rooms()}


def _counts_further_on(woods, way, parts, hour):
    """The counts of the last room of a way, its first one being lit at an hour.

    Parts are the counts, for each room of the way, of what hangs there, as come_and_made tells them. Fire goes
    ahead, towards the first room, or on, from where it comes in to the way.
    """
    ahead = {hour: 1}
    on = {}
    reached = {}
    for at, room in enumerate(way):
        coming, made = parts[at]
        reached = plus(times(ahead, made), times(on, coming))
        if at + 1 < len(way):
            ahead = shifted_sums(times(ahead, coming), 1, woods[way[at + 1]])
            on = shifted_sums(reached, -woods[room], -1)
    return reached


def _gap_counts(house, woods, book, one, other):
    """By the hours that other is lit behind one, how many fires that fit have them."""
    alone = _alone(house, book)
    way = way_back(ahead_from(house, other), one)
    parts = []
    for room in way:
        parts.append(come_and_made(part_of(house, rooms_at(house, way, room)), woods, alone, {}, room))
    gaps = {}
    for hour in counts_by_hour(house, woods, book, one):
        for later, many in _counts_further_on(woods, way, parts, hour).items():
            gaps[later - hour] = gaps.get(later - hour, 0) + many
    return gaps


def gap_given(house, woods, book, one, other):
    need_fitting(house, woods, book)
    need_two(house, one, other)
    gaps = _gap_counts(house, woods, book, one, other)
    return chances_of(gaps, sum(list(gaps.values())))


def ahead_given(house, woods, book, one, other):
    need_fitting(house, woods, book)
    need_two(house, one, other)
    return ahead_of_gaps(_gap_counts(house, woods, book, one, other))
