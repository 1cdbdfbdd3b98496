"""Houses without rings, and the errors of rooms and lists of rooms."""

from hearths.errors import BadDoors, BadRooms, BadSome, NoRoom, NotJoined
from hearths.plain import bad_index, is_name, is_row


class House:
    """Rooms that are joined by doors, from each to each other one in just one way."""

    def __init__(self, rooms, doors):
        wrong = bad_index(rooms, is_name)
        if wrong is None and len(rooms) == 0:
            wrong = 0
        if wrong is not None:
            raise BadRooms(wrong)
        self._rooms = sorted(rooms)
        self._near = _rooms_near(self._rooms, doors)
        self._doors = [(one, other) for one in self._rooms for other in self._near[one] if one < other]

    def rooms(self):
        return list(self._rooms)

    def doors(self):
        return list(self._doors)

    def __len__(self):
        return len(self._rooms)

    def __eq__(self, other):
        return isinstance(other, House) and self._rooms == other._rooms and self._doors == other._doors


def _rooms_near(rooms, doors):
    """The dict from all rooms to the ascending lists of those a door further."""
    near = {room: [] for room in rooms}
    lots = {room: room for room in rooms}
    if not is_row(doors):
        raise BadDoors(0)
    for at, door in enumerate(doors):
        if not _is_pair_of(near, door) or lots[door[0]] == lots[door[1]]:
            raise BadDoors(at)
        join_lots(lots, lots[door[0]], lots[door[1]])
        near[door[0]].append(door[1])
        near[door[1]].append(door[0])
    for room in rooms:
        if lots[room] != lots[rooms[0]]:
            raise NotJoined(room)
    return {room: sorted(near[room]) for room in rooms}


def _is_pair_of(near, door):
    """Whether a thing is a pair of rooms; one room twice is barred with the rings."""
    if not is_row(door) or len(door) != 2:
        return False
    return all([isinstance(room, str) and room in near for room in door])


def join_lots(lots, kept, lost):
    """Makes one lot of two: lots are the dict from rooms to the names of their lots."""
    for room in list(lots):
        if lots[room] == lost:
            lots[room] = kept


def rooms_near(house):
    """The house's own dict from all rooms, ascending, to the rooms beside them: to be read only."""
    return house._near


def is_room(house, thing):
    return isinstance(thing, str) and thing in house._near


def need_room(house, thing):
    if not is_room(house, thing):
        raise NoRoom(thing)


def need_some(house, some):
    """Raises BadSome for what is no list of unlike rooms."""
    wrong = bad_index(some, lambda thing: is_room(house, thing))
    if wrong is not None:
        raise BadSome(wrong)


def is_of_all(house, thing):
    """Whether a thing is a dict from just all rooms, to whatever."""
    if not isinstance(thing, dict) or len(thing) != len(house):
        return False
    return all([room in thing for room in house._near])


def beside(house, room):
    need_room(house, room)
    return list(house._near[room])
