"""Walks: where one is hour by hour, until all rooms have been come to in time."""

from hearths.houses import is_room, need_room, rooms_near
from hearths.plain import is_row
from hearths.ways import ahead_from, doors_ahead, way_back
from hearths.woods import need_woods


def is_walk(house, woods, thing):
    need_woods(house, woods)
    if not is_row(thing) or len(thing) == 0 or not all([is_room(house, room) for room in thing]):
        return False
    near = rooms_near(house)
    come = {thing[0]: 0}
    for hour in range(1, len(thing)):
        last, room = thing[hour - 1], thing[hour]
        if room not in near[last] or len(come) == len(house):
            return False
        if room not in come:
            if hour - come[last] > woods[last]:
                return False
            come[room] = hour
    return len(come) == len(house)


def shortest_walk(house, woods, first):
    """Whoever is later at one room is no earlier at another one: so from new room to new room one goes straight."""
    need_woods(house, woods)
    need_room(house, first)
    ahead = ahead_from(house, first)
    seen_by = {room: ahead_from(house, room) for room in ahead}
    doors = {room: doors_ahead(seen_by[room]) for room in ahead}
    rows = [{first: 0}]
    for _ in range(len(house) - 1):
        rows = [row for come in rows for row in _further(ahead, doors, woods, come)]
    if not rows:
        return None
    order = list(min(rows, key=lambda come: max(list(come.values()))))
    walk = [first]
    for last, room in zip(order, order[1:]):
        walk.extend(way_back(seen_by[room], last)[1:])
    return walk


def _further(ahead, doors, woods, come):
    """The dicts of the hours at which rooms are come to, in order, with one room more that is come to in time."""
    last = list(come)[-1]
    rows = []
    for room, before in ahead.items():
        if room not in come and before in come:
            hour = come[last] + doors[last][room]
            if hour - come[before] <= woods[before]:
                row = dict(come)
                row[room] = hour
                rows.append(row)
    return rows
