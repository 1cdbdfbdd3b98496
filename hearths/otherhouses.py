"""Houses that are made of other houses."""

from hearths.errors import BadName, BadNames, BadSome, CommonRoom
from hearths.houses import House, is_of_all, is_room, need_room, need_some
from hearths.plain import bad_index, is_name


def part_of(house, some):
    need_some(house, some)
    if len(some) == 0:
        raise BadSome(0)
    return House(some, [(one, other) for one, other in house.doors() if one in some and other in some])


def built_on(house, room, name):
    need_room(house, room)
    if not is_name(name) or is_room(house, name):
        raise BadName(name)
    return House(house.rooms() + [name], house.doors() + [(room, name)])


def need_no_common_room(one, other):
    """Raises CommonRoom with the first room that is in both houses."""
    for name in one.rooms():
        if is_room(other, name):
            raise CommonRoom(name)


def joined_by(one, other, room, far):
    need_room(one, room)
    need_room(other, far)
    need_no_common_room(one, other)
    return House(one.rooms() + other.rooms(), one.doors() + other.doors() + [(room, far)])


def renamed(house, names):
    if not is_of_all(house, names) or bad_index([names[room] for room in house.rooms()], is_name) is not None:
        raise BadNames(names)
    doors = [(names[one], names[other]) for one, other in house.doors()]
    return House([names[room] for room in house.rooms()], doors)
