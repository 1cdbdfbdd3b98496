"""By how many hours one room is lit behind another one."""

from hearths.errors import BadHours
from hearths.houses import need_room
from hearths.plain import is_integer, joined_stretches
from hearths.ways import ahead_from, way_back
from hearths.woods import fire_steps, need_woods


class Seen:
    """A house as it is seen from a first room, and by how many hours rooms can be lit behind it by some steps."""

    def __init__(self, ahead, steps):
        self.ahead = ahead
        self.least_to = {}
        self.most_to = {}
        for room, before in ahead.items():
            if before is None:
                self.least_to[room] = 0
                self.most_to[room] = 0
            else:
                self.least_to[room] = self.least_to[before] + steps[room][0]
                self.most_to[room] = self.most_to[before] + steps[room][1]

    def hours_apart(self, one, other):
        """The pair of the least and most hours by which other is lit behind one."""
        part = _parting(self.ahead, one, other)
        least = self.least_to[other] - self.least_to[part] - self.most_to[one] + self.most_to[part]
        most = self.most_to[other] - self.most_to[part] - self.least_to[one] + self.least_to[part]
        return (least, most)


def _parting(ahead, one, other):
    """The room where the ways from the first room to both part."""
    back = way_back(ahead, one)
    room = other
    while room not in back:
        room = ahead[room]
    return room


def seen_from(house, woods, first):
    """A house as fires with this first room go through it."""
    ahead = ahead_from(house, first)
    return Seen(ahead, fire_steps(ahead, woods))


def need_hours(hours):
    if not is_integer(hours):
        raise BadHours(hours)


def between(house, woods, first, one, other):
    need_woods(house, woods)
    for room in (first, one, other):
        need_room(house, room)
    return seen_from(house, woods, first).hours_apart(one, other)


def _apart_by_first(house, woods, one, other):
    """The dict from all rooms, ascending, to the hours apart with them as first rooms."""
    need_woods(house, woods)
    need_room(house, one)
    need_room(house, other)
    return {first: seen_from(house, woods, first).hours_apart(one, other) for first in house.rooms()}


def rooms_for(house, woods, one, other, hours):
    apart = _apart_by_first(house, woods, one, other)
    need_hours(hours)
    return [first for first, (least, most) in apart.items() if least <= hours <= most]


def apart_by(house, woods, one, other):
    apart = _apart_by_first(house, woods, one, other)
    return joined_stretches(list(apart.values()))
