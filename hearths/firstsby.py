"""First rooms by sayings, the wood that is wanted for these, and the shortest lists of sayings."""

from itertools import combinations

from hearths.closest import follows_by, need_no_ring, needless_ones
from hearths.houses import need_room
from hearths.sayings import (need_first_and_sayings, need_sayings, ring_in, ring_of_steps, rows_from, steps_by,
                             turned)
from hearths.ways import ahead_from
from hearths.woods import need_woods


def firsts_by(house, woods, sayings):
    need_woods(house, woods)
    need_sayings(house, sayings)
    return [first for first in house.rooms() if _some_keeps(house, woods, first, sayings)]


def _some_keeps(house, woods, first, sayings):
    return ring_of_steps(house, steps_by(house, woods, first, sayings)) is None


def wood_wanted(house, woods, first, sayings, room):
    """Each ring that the room's wood can break has just one step by it, from the room to one further."""
    need_first_and_sayings(house, woods, first, sayings)
    need_room(house, room)
    ahead = ahead_from(house, first)
    further = [far for far in ahead if ahead[far] == room]
    so_much = sum(list(woods.values())) + _hours_said(sayings)
    plenty = {far: so_much if far == room else woods[far] for far in woods}
    steps = steps_by(house, plenty, first, sayings)
    hours, came = rows_from(len(house), turned(steps), room)
    if ring_in(came) is not None:
        return None
    return max([1] + [-hours[far] for far in further])


def _hours_said(sayings):
    """As many hours as sayings can ask of a wood, or more."""
    return sum([abs(hours) for saying in sayings for hours in saying[2:] if hours is not None])


def shortest_clash(house, woods, first, sayings):
    need_first_and_sayings(house, woods, first, sayings)
    if _some_keeps(house, woods, first, sayings):
        return None
    for many in range(1, len(sayings)):
        for indexes in combinations(range(len(sayings)), many):
            if not _some_keeps(house, woods, first, [sayings[at] for at in indexes]):
                return list(indexes)
    return list(range(len(sayings)))


def least_core(house, woods, first, sayings):
    """A saying that does not follow from the others stands in each core."""
    need_first_and_sayings(house, woods, first, sayings)
    need_no_ring(house, steps_by(house, woods, first, sayings))
    free = needless_ones(house, woods, first, sayings)
    wanted = [at for at in range(len(sayings)) if at not in free]
    for many in range(len(free) + 1):
        for some in combinations(free, many):
            core = sorted(wanted + list(some))
            if _is_core(house, woods, first, sayings, core):
                return core
    return wanted


def _is_core(house, woods, first, sayings, core):
    steps = steps_by(house, woods, first, [sayings[at] for at in core])
    return all([follows_by(house, steps, saying) for at, saying in enumerate(sayings) if at not in core])


def count_by(house, woods, first, sayings):
    """Room by room, only the hours of those rooms are kept apart on which later ones hang."""
    need_first_and_sayings(house, woods, first, sayings)
    ahead = ahead_from(house, first)
    limits = _limits_of_pairs(ahead, woods, sayings)
    order = list(ahead)
    kept = [first]
    states = {(0,): 1}
    for at in range(1, len(order)):
        further = [room for room in kept + [order[at]] if _is_asked_later(limits, room, order[at + 1:])]
        states = _states_on(states, kept, order[at], limits, further)
        kept = further
    return sum(list(states.values()))


def _limits_of_pairs(ahead, woods, sayings):
    """The dict from pairs of rooms to all least and most hours by which the other must be lit behind the one."""
    limits = {}
    for room, before in ahead.items():
        if before is not None:
            limits[(before, room)] = [(1, woods[before])]
    for one, other, least, most in sayings:
        limits[(one, other)] = limits.get((one, other), []) + [(least, most)]
        limits[(other, one)] = limits.get((other, one), []) + [_turned_limit(least, most)]
    return limits


def _turned_limit(least, most):
    return (None if most is None else -most, None if least is None else -least)


def _is_asked_later(limits, room, later):
    return any([(room, far) in limits for far in later])


def _states_on(states, kept, room, limits, further):
    """The numbers of ways by the hours of further rooms, made of those by the hours of kept ones and a room's."""
    onward = {}
    for hours, many in states.items():
        hour_of = {far: hours[at] for at, far in enumerate(kept)}
        least, most = _hours_left(hour_of, room, limits)
        for hour in range(least, most + 1):
            hour_of[room] = hour
            key = tuple([hour_of[far] for far in further])
            onward[key] = onward.get(key, 0) + many
    return onward


def _hours_left(hour_of, room, limits):
    """From which to which hour a room can be lit by the hours of rooms that are known."""
    lows = []
    highs = []
    for far in hour_of:
        for least, most in limits.get((far, room), []):
            if least is not None:
                lows.append(hour_of[far] + least)
            if most is not None:
                highs.append(hour_of[far] + most)
    return (max(lows), min(highs))
