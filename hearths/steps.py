"""Steps: by how many hours each room is lit behind the one from which its fire came."""

from hearths.errors import BadSteps
from hearths.fires import earliest_room, need_fire
from hearths.houses import need_room
from hearths.plain import ascending, is_from_one
from hearths.ways import ahead_from
from hearths.woods import need_woods


def steps_of(house, woods, fire):
    need_fire(house, woods, fire)
    ahead = ahead_from(house, earliest_room(house, fire))
    return {room: fire[room] - fire[ahead[room]] for room in house.rooms() if ahead[room] is not None}


def step_limits(ahead, woods):
    """The dict, ascending, from all rooms but the first to the most steps that they can have."""
    return {room: woods[ahead[room]] for room in sorted(list(ahead)) if ahead[room] is not None}


def fire_in_steps(ahead, steps):
    """The fire with the first hour 0 and right steps."""
    fire = {}
    for room, before in ahead.items():
        fire[room] = 0 if before is None else fire[before] + steps[room]
    return ascending(fire)


def are_steps(ahead, woods, thing):
    limits = step_limits(ahead, woods)
    if not isinstance(thing, dict) or len(thing) != len(limits):
        return False
    return all([room in thing and is_from_one(thing[room]) and thing[room] <= limits[room] for room in limits])


def fire_by(house, woods, first, steps):
    need_woods(house, woods)
    need_room(house, first)
    ahead = ahead_from(house, first)
    if not are_steps(ahead, woods, steps):
        raise BadSteps(steps)
    return fire_in_steps(ahead, steps)
