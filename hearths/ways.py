"""Ways between rooms, and a house as it is seen from one room."""

from hearths.errors import NoDoor
from hearths.houses import need_room, need_some, rooms_near


def ahead_from(house, first):
    """The dict from all rooms to the one ahead of them as one comes from first, None for first itself.

    Each room stands in it behind the one ahead of it.
    """
    near = rooms_near(house)
    ahead = {first: None}
    found = [first]
    at = 0
    while at < len(found):
        here = found[at]
        for room in near[here]:
            if room not in ahead:
                ahead[room] = here
                found.append(room)
        at += 1
    return ahead


def doors_ahead(ahead):
    """The dict from all rooms to how many doors lie between them and the first one."""
    doors = {}
    for room, before in ahead.items():
        doors[room] = 0 if before is None else doors[before] + 1
    return doors


def way_back(ahead, room):
    """The list of the rooms from room to the first one."""
    back = [room]
    while ahead[back[-1]] is not None:
        back.append(ahead[back[-1]])
    return back


def doors_inward(house):
    """All doors in both directions, (room, far), each behind all that lead from far further on.

    So what is told of the branch behind a door can be made of what is told of the branches behind it.
    """
    ahead = ahead_from(house, house.rooms()[0])
    further = [room for room in ahead if ahead[room] is not None]
    inward = [(ahead[room], room) for room in reversed(list(further))]
    return inward + [(room, ahead[room]) for room in further]


def rooms_beyond(ahead, door_room):
    """The ascending list of door_room and of what lies behind it, as one comes from the first room."""
    inside = {}
    for room, before in ahead.items():
        inside[room] = room == door_room or (before is not None and inside[before])
    return [room for room in sorted(list(ahead)) if inside[room]]


def way(house, one, other):
    need_room(house, one)
    need_room(house, other)
    return way_back(ahead_from(house, other), one)


def least_way(house, some):
    need_some(house, some)
    if len(some) == 0:
        return []
    one = _furthest(house, some[0], some)
    other = _furthest(house, one, some)
    rooms = way(house, min(one, other), max(one, other))
    return rooms if all([room in rooms for room in some]) else None


def _furthest(house, room, some):
    doors = doors_ahead(ahead_from(house, room))
    return max(some, key=lambda far: doors[far])


def meeting(house, one, other, third):
    rooms = way(house, one, other)
    need_room(house, third)
    ahead = ahead_from(house, one)
    room = third
    while room not in rooms:
        room = ahead[room]
    return room


def behind(house, room, other):
    need_room(house, room)
    need_room(house, other)
    if other not in rooms_near(house)[room]:
        raise NoDoor(room, other)
    return rooms_beyond(ahead_from(house, room), other)
