"""By how many hours one room is lit behind another one."""

from hearths.errors import BadHours
from hearths.houses import need_room
from hearths.plain import is_integer, joined_stretches
from hearths.stepspans import Seen, fire_steps
from hearths.ways import ahead_from
from hearths.woods import need_woods


def seen_from(house, woods, first):
    """A house as fires with this first room go through it."""
    ahead = ahead_from(house, first)
    return Seen(ahead, fire_steps(ahead, woods))


def need_hours(hours):
    if not is_integer(hours):
        raise BadHours(hours)


def between(house, woods, first, one, other):
    need_woods(house, woods)
    for room in (first, one, other):
        need_room(house, room)
    return seen_from(house, woods, first).hours_apart(one, other)


def _apart_by_first(house, woods, one, other):
    """The dict from all rooms, ascending, to the hours apart with them as first rooms."""
    need_woods(house, woods)
    need_room(house, one)
    need_room(house, other)
    return {first: seen_from(house, woods, first).hours_apart(one, other) for first in house.rooms()}


def rooms_for(house, woods, one, other, hours):
    apart = _apart_by_first(house, woods, one, other)
    need_hours(hours)
    return [first for first, (least, most) in apart.items() if least <= hours <= most]


def apart_by(house, woods, one, other):
    apart = _apart_by_first(house, woods, one, other)
    return joined_stretches(list(apart.values()))
