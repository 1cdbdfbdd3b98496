"""By how many hours one room is lit behind another one."""

from hearths.errors import BadHours
from hearths.houses import need_room
from hearths.plain import is_integer, joined_stretches
from hearths.ways import ahead_from, doors_ahead, way_back
from hearths.woods import need_woods, woods_ahead


class Seen:
    """A house as it is seen from a first room: rooms ahead, doors and woods on the ways."""

    def __init__(self, house, woods, first):
        self.ahead = ahead_from(house, first)
        self.doors_to = doors_ahead(self.ahead)
        self.woods_to = woods_ahead(self.ahead, woods)

    def hours_apart(self, one, other):
        """The pair of the least and most hours by which other is lit behind one."""
        part = _parting(self.ahead, one, other)
        least = self.doors_to[other] - self.doors_to[part] - self.woods_to[one] + self.woods_to[part]
        most = self.woods_to[other] - self.woods_to[part] - self.doors_to[one] + self.doors_to[part]
        return (least, most)


def _parting(ahead, one, other):
    """The room where the ways from the first room to both part."""
    back = way_back(ahead, one)
    room = other
    while room not in back:
        room = ahead[room]
    return room


def need_hours(hours):
    if not is_integer(hours):
        raise BadHours(hours)


def between(house, woods, first, one, other):
    need_woods(house, woods)
    for room in (first, one, other):
        need_room(house, room)
    return Seen(house, woods, first).hours_apart(one, other)


def _apart_by_first(house, woods, one, other):
    """The dict from all rooms, ascending, to the hours apart with them as first rooms."""
    need_woods(house, woods)
    need_room(house, one)
    need_room(house, other)
    return {first: Seen(house, woods, first).hours_apart(one, other) for first in house.rooms()}


def rooms_for(house, woods, one, other, hours):
    apart = _apart_by_first(house, woods, one, other)
    need_hours(hours)
    return [first for first, (least, most) in apart.items() if least <= hours <= most]


def apart_by(house, woods, one, other):
    apart = _apart_by_first(house, woods, one, other)
    return joined_stretches(list(apart.values()))
