"""Fires that fit a book in order: by their first rooms, then by their steps."""

from hearths.books import wrong_rooms
from hearths.errors import NotFitting
from hearths.fires import earliest_room, need_fire
from hearths.firenumbers import need_number
from hearths.fittings import count_by_steps, counts_by_first, need_told
from hearths.steps import fire_in_steps, step_limits
from hearths.ways import ahead_from


def _with_step(steps, room, least, most):
    """The same steps, new, but those of one room."""
    return {far: (least, most) if far == room else steps[far] for far in steps}


def _least_step(ahead, book, steps, room, number):
    """The least step of a room by which more than number fires have no greater one."""
    low, high = steps[room]
    while low < high:
        middle = (low + high) // 2
        if count_by_steps(ahead, book, _with_step(steps, room, 1, middle)) > number:
            high = middle
        else:
            low = middle + 1
    return low


def _fire_of_first(house, woods, book, first, number):
    """The fire with a number among those that fit and have a first room."""
    ahead = ahead_from(house, first)
    limits = step_limits(ahead, woods)
    steps = {room: (1, limits[room]) for room in limits}
    for room in limits:
        step = _least_step(ahead, book, steps, room, number)
        number -= count_by_steps(ahead, book, _with_step(steps, room, 1, step - 1))
        steps = _with_step(steps, room, step, step)
    fire = fire_in_steps(ahead, {room: steps[room][0] for room in steps})
    noted = list(book)[0]
    return {room: hour + book[noted] - fire[noted] for room, hour in fire.items()}


def fitting_at(house, woods, book, number):
    need_told(house, woods, book)
    begun = counts_by_first(house, woods, book)
    need_number(number, sum(list(begun.values())))
    for first in begun:
        if number < begun[first]:
            return _fire_of_first(house, woods, book, first, number)
        number -= begun[first]
    return None


def fitting_number(house, woods, book, fire):
    need_told(house, woods, book)
    need_fire(house, woods, fire)
    wrong = wrong_rooms(book, fire)
    if wrong:
        raise NotFitting(wrong[0])
    first = earliest_room(house, fire)
    ahead = ahead_from(house, first)
    limits = step_limits(ahead, woods)
    steps = {room: (1, limits[room]) for room in limits}
    begun = counts_by_first(house, woods, book)
    number = sum([begun[room] for room in begun if room < first])
    for room in limits:
        step = fire[room] - fire[ahead[room]]
        number += count_by_steps(ahead, book, _with_step(steps, room, 1, step - 1))
        steps = _with_step(steps, room, step, step)
    return number
