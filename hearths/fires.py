"""Fires: hours at which all rooms are lit, from a first one on."""

from hearths.errors import BadFire
from hearths.houses import is_of_all
from hearths.plain import ascending, is_integer
from hearths.ways import ahead_from
from hearths.woods import need_woods


def is_fire(house, woods, thing):
    need_woods(house, woods)
    if not is_of_all(house, thing) or not all([is_integer(thing[room]) for room in house.rooms()]):
        return False
    ahead = ahead_from(house, earliest_room(house, thing))
    for room, before in ahead.items():
        if before is not None and not 1 <= thing[room] - thing[before] <= woods[before]:
            return False
    return True


def need_fire(house, woods, fire):
    """Raises BadWoods, then BadFire, for what is none."""
    if not is_fire(house, woods, fire):
        raise BadFire(fire)


def earliest_room(house, fire):
    """The first of the rooms that have the least hour: of a fire it is its first room."""
    return min(house.rooms(), key=lambda room: fire[room])


def first_of(house, woods, fire):
    need_fire(house, woods, fire)
    return earliest_room(house, fire)


def lit_from(house, woods, fire):
    need_fire(house, woods, fire)
    return ascending(ahead_from(house, earliest_room(house, fire)))


def burnt_out(house, woods, fire):
    need_fire(house, woods, fire)
    return {room: fire[room] + woods[room] for room in house.rooms()}
