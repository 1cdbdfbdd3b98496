"""Woods: for how many hours each hearth burns."""

from hearths.errors import BadWoods
from hearths.houses import is_of_all
from hearths.plain import is_from_one
from hearths.ways import way


def is_woods(house, thing):
    return is_of_all(house, thing) and all([is_from_one(thing[room]) for room in house.rooms()])


def need_woods(house, woods):
    if not is_woods(house, woods):
        raise BadWoods(woods)


def woods_ahead(ahead, woods):
    """The dict from all rooms to the woods of the rooms from the first one to the one ahead of them."""
    sums = {}
    for room, before in ahead.items():
        sums[room] = 0 if before is None else sums[before] + woods[before]
    return sums


def fire_steps(ahead, woods):
    """The dict from all rooms but the first to the least and the most hours that fires take to them from ahead."""
    return {room: (1, woods[before]) for room, before in ahead.items() if before is not None}


def spread(house, woods, one, other):
    need_woods(house, woods)
    rooms = way(house, one, other)
    return (len(rooms) - 1, sum([woods[room] for room in rooms[:-1]]))
