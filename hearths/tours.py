"""Tours: one alone carries the fire through a house, branch by branch."""

from hearths.errors import BadBack, BadTour
from hearths.houses import is_room, rooms_near
from hearths.plain import is_number, is_row
from hearths.ways import ahead_from, doors_ahead
from hearths.woods import need_woods


def need_back(back):
    if not is_number(back):
        raise BadBack(back)


def need_woods_and_back(house, woods, back):
    need_woods(house, woods)
    need_back(back)


def _wrong_in_tour(house, thing):
    """The first index at which a thing is no tour, how many there are if only rooms lack, None for a tour."""
    if not is_row(thing):
        return 0
    near = rooms_near(house)
    ahead = {}
    here = None
    for at, room in enumerate(thing):
        if not is_room(house, room) or room in ahead:
            return at
        while here is not None and all([far in ahead for far in near[here]]):
            here = ahead[here]
        if at > 0 and room not in near[here]:
            return at
        ahead[room] = here
        here = room
    return None if len(ahead) == len(house) else len(thing)


def is_tour(house, thing):
    return _wrong_in_tour(house, thing) is None


def need_tour(house, tour):
    wrong = _wrong_in_tour(house, tour)
    if wrong is not None:
        raise BadTour(wrong)


def hours_of_tour(house, back, tour):
    """The dict from the rooms of a right tour, in its order, to their hours."""
    ahead = ahead_from(house, tour[0])
    doors = doors_ahead(ahead)
    hours = {tour[0]: 0}
    for last, room in zip(tour, tour[1:]):
        doors_back = doors[last] + 1 - doors[room]
        hours[room] = hours[last] + 1 + back * doors_back
    return hours


def late_room(house, woods, back, tour):
    """What late_in_tour tells of a right tour."""
    ahead = ahead_from(house, tour[0])
    hours = hours_of_tour(house, back, tour)
    for room in tour[1:]:
        if hours[room] - hours[ahead[room]] > woods[ahead[room]]:
            return room
    return None


def tour_hours(house, back, tour):
    need_back(back)
    need_tour(house, tour)
    hours = hours_of_tour(house, back, tour)
    return {room: hours[room] for room in house.rooms()}


def late_in_tour(house, woods, back, tour):
    need_woods_and_back(house, woods, back)
    need_tour(house, tour)
    return late_room(house, woods, back, tour)
