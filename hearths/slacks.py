"""Watchers: whose hours alone are seen, and first rooms that they do not keep apart."""

from hearths.errors import BadSome, BadWatchers
from hearths.hourspans import early_by_steps
from hearths.houses import is_room, need_room, rooms_near
from hearths.plain import ascending, bad_index
from hearths.ways import ahead_from, doors_inward, way_back
from hearths.woods import need_woods


def need_watchers(house, woods, watchers):
    """Raises BadWoods, then BadWatchers, for what is none."""
    need_woods(house, woods)
    wrong = bad_index(watchers, lambda thing: is_room(house, thing))
    if wrong is not None:
        raise BadWatchers(wrong)


def slacks_beyond(house, woods, watchers):
    """The dict from the doors, in both directions, to the slack of the room behind, seen from the one ahead.

    It is None just if nobody behind the door is watched.
    """
    beyond = {}
    for room, far in doors_inward(house):
        beyond[(room, far)] = slack_from(house, woods, watchers, beyond, far, [room])
    return beyond


def slack_from(house, woods, watchers, beyond, room, some):
    """The slack of a room, seen from some beside it, by the slacks beyond the doors to the others."""
    if room in watchers:
        return 0
    slacks = [beyond[(room, far)] for far in rooms_near(house)[room] if far not in some]
    told = [hours for hours in slacks if hours is not None]
    return woods[room] - 1 + min(told) if told else None


def slack(house, woods, watchers, room, some):
    need_watchers(house, woods, watchers)
    need_room(house, room)
    near = rooms_near(house)[room]
    wrong = bad_index(some, lambda thing: thing in near)
    if wrong is not None:
        raise BadSome(wrong)
    return slack_from(house, woods, watchers, slacks_beyond(house, woods, watchers), room, some)


def _slacks_on(house, woods, watchers, beyond, rooms):
    """The list of the slacks of the rooms of a way, each seen from those beside it on the way."""
    slacks = []
    for at, room in enumerate(rooms):
        slacks.append(slack_from(house, woods, watchers, beyond, room, rooms[max(0, at - 1):at + 2]))
    return slacks


def _first_apart(rooms, slacks):
    for at, one in enumerate(slacks):
        for far in range(at + 1, len(slacks)):
            if one is not None and slacks[far] is not None and one + slacks[far] < 2 * (far - at):
                return (rooms[at], rooms[far])
    return None


def kept_apart(house, woods, watchers, one, other):
    need_watchers(house, woods, watchers)
    need_room(house, one)
    need_room(house, other)
    rooms = way_back(ahead_from(house, other), one)
    return _first_apart(rooms, _slacks_on(house, woods, watchers, slacks_beyond(house, woods, watchers), rooms))


def alike_rooms(house, woods, watchers, room):
    need_watchers(house, woods, watchers)
    need_room(house, room)
    beyond = slacks_beyond(house, woods, watchers)
    ahead = ahead_from(house, room)
    alike = []
    for other in house.rooms():
        rooms = way_back(ahead, other)
        if _first_apart(rooms, _slacks_on(house, woods, watchers, beyond, rooms)) is None:
            alike.append(other)
    return alike


def alike_fires(house, woods, watchers, one, other):
    need_watchers(house, woods, watchers)
    need_room(house, one)
    need_room(house, other)
    rooms = way_back(ahead_from(house, other), one)
    slacks = _slacks_on(house, woods, watchers, slacks_beyond(house, woods, watchers), rooms)
    if _first_apart(rooms, slacks) is not None:
        return None
    behind = _hours_behind(woods, rooms, slacks)
    fire = {one: 0}
    twin = {one: behind[one]}
    for near, far in zip(rooms, rooms[1:]):
        both = behind[near] - behind[far]
        fire[far] = fire[near] + max(1, both - woods[far])
        twin[far] = fire[far] + behind[far]
    for room, before in ahead_from(house, one).items():
        if room not in fire:
            apart = twin[before] - fire[before]
            given = min(abs(apart), woods[before] - 1)
            fire[room] = fire[before] + 1 + (given if apart > 0 else 0)
            twin[room] = twin[before] + 1 + (given if apart < 0 else 0)
    return (ascending(fire), ascending(twin))


def _hours_behind(woods, rooms, slacks):
    """By how many hours the rooms of a way are lit later by fire from its end than by fire from its begin."""
    if len(rooms) == 1:
        return {rooms[0]: 0}
    ahead = {room: None if at == 0 else rooms[at - 1] for at, room in enumerate(rooms)}
    steps = {far: (-woods[near] - woods[far], -2) for near, far in zip(rooms, rooms[1:])}
    spans = {room: (-slacks[at], slacks[at]) for at, room in enumerate(rooms) if slacks[at] is not None}
    return early_by_steps(ahead, steps, spans)
