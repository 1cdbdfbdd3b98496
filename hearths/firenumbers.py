"""Fires with the first hour 0 in order: by their first rooms, then by their steps."""

from hearths.errors import BadNumber
from hearths.fires import earliest_room, need_fire
from hearths.firecounts import count_fires, fires_begun
from hearths.plain import is_integer
from hearths.steps import fire_in_steps, step_limits
from hearths.ways import ahead_from
from hearths.woods import need_woods


def need_number(thing, many):
    """Raises BadNumber for what is no number below many."""
    if not is_integer(thing) or not 0 <= thing < many:
        raise BadNumber(thing)


def _steps_numbered(limits, number):
    """The steps with a number: the last room's change first, as the last figures of a number do."""
    steps = {}
    for room in reversed(list(limits)):
        steps[room] = number % limits[room] + 1
        number = number // limits[room]
    return steps


def _fire_numbered(house, woods, number):
    for first in house.rooms():
        many = fires_begun(house, woods, first)
        if number < many:
            ahead = ahead_from(house, first)
            return fire_in_steps(ahead, _steps_numbered(step_limits(ahead, woods), number))
        number -= many
    return None


def _number_of(house, woods, fire):
    first = earliest_room(house, fire)
    ahead = ahead_from(house, first)
    limits = step_limits(ahead, woods)
    number = 0
    for room in limits:
        number = number * limits[room] + fire[room] - fire[ahead[room]] - 1
    return number + sum([fires_begun(house, woods, room) for room in house.rooms() if room < first])


def fire_at(house, woods, number):
    need_woods(house, woods)
    need_number(number, count_fires(house, woods))
    return _fire_numbered(house, woods, number)


def fire_number(house, woods, fire):
    need_fire(house, woods, fire)
    return _number_of(house, woods, fire)


def next_fire(house, woods, fire):
    need_fire(house, woods, fire)
    following = _fire_numbered(house, woods, _number_of(house, woods, fire) + 1)
    if following is None:
        return None
    begin = fire[earliest_room(house, fire)]
    return {room: hour + begin for room, hour in following.items()}


def drawn_fire(house, woods, chooser):
    need_woods(house, woods)
    # The chooser is somebody else's: what it does to the dict must not reach the fire that is told.
    kept = dict(woods)
    many = count_fires(house, kept)
    number = chooser(many)
    need_number(number, many)
    return _fire_numbered(house, kept, number)
