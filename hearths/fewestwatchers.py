"""The fewest and the cheapest watchers that tell the first room.

They tell it just if at each door both slacks are together at most 1, so that each slack is 0 or 1. Seen from a
first room, the costs of a part of the house are a dict from the pairs (seen, above) of the slack of its nearest
room, seen from the one ahead, and of the slack of the one ahead, seen from this room, to the cost: the pair
(price, list) of the least price of watchers in this part, and these. What cannot be is not in it, or None.
"""

from hearths.errors import BadPrices
from hearths.houses import is_of_all
from hearths.plain import is_number
from hearths.ways import ahead_from
from hearths.woods import need_woods


def _all_of(costs):
    """The cost of several parts together."""
    if None in costs:
        return None
    return (sum([price for price, _ in costs]), sorted([room for _, rooms in costs for room in rooms]))


def _best_of(costs):
    told = [cost for cost in costs if cost is not None]
    return min(told) if told else None


def _watched_cost(own, parts):
    """Of a watched room all parts behind it see the slack 0."""
    return _all_of([own] + [_best_of([part.get((0, 0)), part.get((1, 0))]) for part in parts])


def _with_zeros(parts, many):
    """The cost of parts so many of which, one or two, have the slack 0, or more; all see 0."""
    costs = [(0, []), None, None]
    for part in parts:
        zero, one = part.get((0, 0)), part.get((1, 0))
        costs = [_all_of([costs[0], one]),
                 _best_of([_all_of([costs[0], zero]), _all_of([costs[1], one])]),
                 _best_of([_all_of([costs[1], zero]), _all_of([costs[2], _best_of([zero, one])])])]
    return _best_of(costs[many:])


def _with_one_zero(parts):
    """The cost of parts just one of which has the slack 0: this one sees 1, all others see its 0."""
    costs = []
    for at, part in enumerate(parts):
        others = [other.get((1, 0)) for place, other in enumerate(parts) if place != at]
        costs.append(_all_of([part.get((0, 1))] + others))
    return _best_of(costs)


def _unwatched_costs(wood, parts, above):
    """The dict from the slacks of an unwatched room, seen from the one ahead, to the costs of the parts behind.

    Above is None of the first room. With wood for 1 hour a part sees the least of the other slacks; so there
    must be a 0, and if it is the only one it sees 1. With wood for 2 hours all must be 0, and see 1.
    """
    alone = len(parts) + (0 if above is None else 1) < 2
    if alone or wood > 2 or (wood == 2 and above == 1):
        return {}
    if wood == 2:
        return {1: _all_of([part.get((0, 1)) for part in parts])}
    if above == 0:
        return {0: _with_zeros(parts, 1), 1: _all_of([part.get((1, 0)) for part in parts])}
    return {0: _best_of([_with_zeros(parts, 2), _with_one_zero(parts)])}


def _costs_behind(wood, own, parts):
    """The costs of a room and of the parts behind it."""
    watched = _watched_cost(own, parts)
    at_none = _unwatched_costs(wood, parts, 0)
    at_one = _unwatched_costs(wood, parts, 1)
    return {(0, 0): _best_of([watched, at_none.get(0)]), (0, 1): _best_of([watched, at_one.get(0)]),
            (1, 0): at_none.get(1)}


def _cheapest(house, woods, prices):
    """The cost of the whole house."""
    first = house.rooms()[0]
    ahead = ahead_from(house, first)
    if len(ahead) == 1:
        return (0, [])
    parts = {room: [] for room in ahead}
    for room in reversed(list(ahead)):
        if room != first:
            parts[ahead[room]].append(_costs_behind(woods[room], (prices[room], [room]), parts[room]))
    watched = _watched_cost((prices[first], [first]), parts[first])
    return _best_of([watched] + list(_unwatched_costs(woods[first], parts[first], None).values()))


def fewest_watchers(house, woods):
    need_woods(house, woods)
    return _cheapest(house, woods, {room: 1 for room in house.rooms()})[1]


def cheapest_watchers(house, woods, prices):
    need_woods(house, woods)
    if not is_of_all(house, prices) or not all([is_number(prices[room]) for room in house.rooms()]):
        raise BadPrices(prices)
    return _cheapest(house, woods, prices)
