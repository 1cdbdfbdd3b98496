"""Who burns last: the rooms that are out last in a fire."""

from hearths.houses import need_room
from hearths.plain import ascending
from hearths.ways import ahead_from, way_back
from hearths.woods import need_woods


def _hours_of_room_last(ahead, woods, room):
    """The fire, its first hour 0, that gets to room as late as can be, and to all else as early as then."""
    on_way = {here: True for here in way_back(ahead, room)}
    fire = {}
    for here, before in ahead.items():
        if before is None:
            fire[here] = 0
        elif here in on_way:
            fire[here] = fire[before] + woods[before]
        else:
            fire[here] = fire[before] + 1
    return ascending(fire)


def _later_ones(woods, fire, room):
    """The ascending list of the rooms that are out later than room."""
    return [far for far in fire if fire[far] + woods[far] > fire[room] + woods[room]]


def last_fire(house, woods, first, room):
    need_woods(house, woods)
    need_room(house, first)
    need_room(house, room)
    fire = _hours_of_room_last(ahead_from(house, first), woods, room)
    return None if _later_ones(woods, fire, room) else fire


def outlasting(house, woods, first, room):
    """What is later by the fire that gets to room as late as can be is so in all fires."""
    need_woods(house, woods)
    need_room(house, first)
    need_room(house, room)
    later = _later_ones(woods, _hours_of_room_last(ahead_from(house, first), woods, room), room)
    return later[0] if later else None


def last_ones(house, woods):
    need_woods(house, woods)
    views = [ahead_from(house, first) for first in house.rooms()]
    return [room for room in house.rooms() if any([_can_be_last(ahead, woods, room) for ahead in views])]


def _can_be_last(ahead, woods, room):
    return not _later_ones(woods, _hours_of_room_last(ahead, woods, room), room)
