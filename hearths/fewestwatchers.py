"""The fewest and the cheapest watchers that tell the first room.

They tell it just if at each door both slacks are together at most 1, so that each slack is 0 or 1. The cost of
a part of the house, seen from a leaf, is the pair (price, list) of the least price of watchers in it, and these,
None if there are none. Each room has two: that by which its slack, seen from the one ahead, is 0, this one's slack
being 0 or 1, and that by which it is 1, this one's slack being 0.
"""

from hearths.errors import BadPrices
from hearths.houses import is_of_all, rooms_near
from hearths.plain import is_number
from hearths.ways import ahead_from
from hearths.woods import need_woods


def _all_of(costs):
    """The cost of several parts together."""
    if None in costs:
        return None
    return (sum([price for price, _ in costs]), sorted([room for _, rooms in costs for room in rooms]))


def _best_of(costs):
    told = [cost for cost in costs if cost is not None]
    return min(told) if told else None


def _watched_cost(own, parts):
    """All parts behind a watched room see the slack 0."""
    return _all_of([own] + [_best_of([zero, one]) for zero, one in parts])


def _with_a_zero(parts):
    """The cost of parts one of which, at least, has the slack 0."""
    without, having = (0, []), None
    for zero, one in parts:
        having = _best_of([_all_of([having, _best_of([zero, one])]), _all_of([without, zero])])
        without = _all_of([without, one])
    return having


def _costs_of(wood, own, parts):
    """The two costs of a room that has a room ahead, by those of the parts behind it.

    A leaf is watched: else its slack is as much as one likes. With wood for 1 hour a room's slack is the least of
    the others, so one of these must be 0; if it is the only one, what is behind it can as well see 1. With wood for 2
    hours all of these must be 0, and see 1.
    """
    watched = _watched_cost(own, parts)
    if not parts or wood > 2:
        return (watched, None)
    if wood == 2:
        return (watched, _all_of([zero for zero, _ in parts]))
    return (_best_of([watched, _with_a_zero(parts)]), _all_of([one for _, one in parts]))


def _cheapest(house, woods, prices):
    """The cost of the whole house."""
    near = rooms_near(house)
    if len(near) == 1:
        return (0, [])
    leaf = [room for room in near if len(near[room]) == 1][0]
    ahead = ahead_from(house, leaf)
    own = {room: (prices[room], [room]) for room in near}
    parts = {room: [] for room in near}
    for room in reversed(list(ahead)):
        if room != leaf:
            parts[ahead[room]].append(_costs_of(woods[room], own[room], parts[room]))
    return _watched_cost(own[leaf], parts[leaf])


def fewest_watchers(house, woods):
    need_woods(house, woods)
    return _cheapest(house, woods, {room: 1 for room in house.rooms()})[1]


def cheapest_watchers(house, woods, prices):
    need_woods(house, woods)
    if not is_of_all(house, prices) or not all([is_number(prices[room]) for room in house.rooms()]):
        raise BadPrices(prices)
    return _cheapest(house, woods, prices)
