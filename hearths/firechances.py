"""Chances, all fires with the first hour 0 being as likely: where fire is made, and hours of one and of two rooms.

COUNTS are dicts from hours to how many fires have them. Seen from the first room, each other one is lit 1, 2, ..
to wood hours behind the one ahead, with the wood of this one, each as often.
"""

from hearths.errors import NoDoor
from hearths.firecounts import count_fires, fires_begun
from hearths.fittings import plus, shifted_sums
from hearths.houses import need_room, rooms_near
from hearths.plain import lowest_terms
from hearths.ways import ahead_from, doors_ahead, rooms_beyond, way_back
from hearths.woods import need_woods, woods_ahead


def chances_of(counts, many):
    """The dict, ascending, of how often something is so as chances, of so many."""
    return {key: lowest_terms(counts[key], many) for key in sorted(list(counts))}


def mean_of(counts):
    """The mean of the hours of counts."""
    return lowest_terms(sum([hour * many for hour, many in counts.items()]), sum(list(counts.values())))


def ahead_of_gaps(gaps):
    """The triple of the chances that the gap is above 0, 0, below 0, by the counts of gaps."""
    many = sum(list(gaps.values()))
    above = sum([gaps[hours] for hours in gaps if hours > 0])
    just = gaps.get(0, 0)
    return (lowest_terms(above, many), lowest_terms(just, many), lowest_terms(many - above - just, many))


def need_two(house, one, other):
    need_room(house, one)
    need_room(house, other)


def need_door(house, one, other):
    """Raises NoRoom of both, then NoDoor."""
    need_two(house, one, other)
    if other not in rooms_near(house)[one]:
        raise NoDoor(one, other)


def one_side(house, one, other):
    """The rooms on one's side of the door to other."""
    return rooms_beyond(ahead_from(house, other), one)


def counts_further(counts, wood):
    """The counts of a room one door further than one with such counts and so much wood."""
    return {hour: many // wood for hour, many in shifted_sums(counts, -wood, -1).items()}


def counts_of_rooms(house, woods):
    """The dict from all rooms to the counts of their hours."""
    counts = {room: {} for room in house.rooms()}
    for first in house.rooms():
        seen = {}
        for room, before in ahead_from(house, first).items():
            if before is None:
                seen[room] = {0: fires_begun(house, woods, first)}
            else:
                seen[room] = counts_further(seen[before], woods[before])
            counts[room] = plus(counts[room], seen[room])
    return counts


def first_chances(house, woods):
    need_woods(house, woods)
    return chances_of({room: woods[room] for room in house.rooms()}, sum(list(woods.values())))


def door_chance(house, woods, one, other):
    need_woods(house, woods)
    need_door(house, one, other)
    return lowest_terms(sum([woods[room] for room in one_side(house, one, other)]), sum(list(woods.values())))


def hour_chances(house, woods, room):
    need_woods(house, woods)
    need_room(house, room)
    return chances_of(counts_of_rooms(house, woods)[room], count_fires(house, woods))


def mean_hours(house, woods):
    need_woods(house, woods)
    twice = {room: 0 for room in house.rooms()}
    for first in house.rooms():
        ahead = ahead_from(house, first)
        doors = doors_ahead(ahead)
        sums = woods_ahead(ahead, woods)
        for room in house.rooms():
            twice[room] += woods[first] * (sums[room] + doors[room])
    return {room: lowest_terms(twice[room], 2 * sum(list(woods.values()))) for room in twice}


def _gap_counts(house, woods, one, other):
    """The counts of the hours by which other is lit behind one, by where fire comes in to the way between both."""
    way = way_back(ahead_from(house, other), one)
    gaps = {}
    for at, room in enumerate(way):
        counts = {0: sum([fires_begun(house, woods, first) for first in rooms_at(house, way, room)])}
        for near in way[at:-1]:
            counts = counts_further(counts, woods[near])
        for near in way[at:0:-1]:
            sums = shifted_sums(counts, 1, woods[near])
            counts = {hour: many // woods[near] for hour, many in sums.items()}
        gaps = plus(gaps, counts)
    return gaps


def rooms_at(house, way, room):
    """The list of the rooms that hang at a room of a way, with it: the way to them leaves the way there."""
    ahead = ahead_from(house, way[0])
    meets = {}
    for far, before in ahead.items():
        meets[far] = far if far in way else meets[before]
    return [far for far in house.rooms() if meets[far] == room]


def gap_chances(house, woods, one, other):
    need_woods(house, woods)
    need_two(house, one, other)
    return chances_of(_gap_counts(house, woods, one, other), count_fires(house, woods))


def ahead_chances(house, woods, one, other):
    need_woods(house, woods)
    need_two(house, one, other)
    return ahead_of_gaps(_gap_counts(house, woods, one, other))
