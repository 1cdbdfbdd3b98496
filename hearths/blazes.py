"""Blazes: fire that is made in any rooms, and meets."""

from hearths.errors import BadBlaze, BadWhole
from hearths.houses import is_of_all, need_room, rooms_near
from hearths.plain import is_integer
from hearths.woods import need_woods


def is_whole(house, thing):
    return is_of_all(house, thing) and all([is_integer(thing[room]) for room in house.rooms()])


def _first_late(house, woods, whole):
    near = rooms_near(house)
    for one in near:
        for other in near[one]:
            if whole[other] - whole[one] > woods[one]:
                return (one, other)
    return None


def is_blaze(house, woods, thing):
    need_woods(house, woods)
    return is_whole(house, thing) and _first_late(house, woods, thing) is None


def need_blaze(house, woods, blaze):
    """Raises BadWoods, then BadBlaze, for what is none."""
    if not is_blaze(house, woods, blaze):
        raise BadBlaze(blaze)


def late_door(house, woods, whole):
    need_woods(house, woods)
    if not is_whole(house, whole):
        raise BadWhole(whole)
    return _first_late(house, woods, whole)


def _earlier_ones(house, blaze, room):
    return [far for far in rooms_near(house)[room] if blaze[far] < blaze[room]]


def made_rooms(house, woods, blaze):
    need_blaze(house, woods, blaze)
    return [room for room in house.rooms() if not _earlier_ones(house, blaze, room)]


def fire_meetings(house, woods, blaze):
    need_blaze(house, woods, blaze)
    meetings = [("door", one, other) for one, other in house.doors() if blaze[one] == blaze[other]]
    for room in house.rooms():
        many = len(_earlier_ones(house, blaze, room))
        if many >= 2:
            meetings.append(("room", room, many))
    return meetings


def whose_fire(house, woods, blaze, room):
    need_blaze(house, woods, blaze)
    need_room(house, room)
    made = []
    todo = [room]
    while todo:
        here = todo.pop()
        earlier = _earlier_ones(house, blaze, here)
        if not earlier:
            made.append(here)
        todo.extend(earlier)
    return sorted(made)
