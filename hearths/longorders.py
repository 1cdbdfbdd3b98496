"""How long the lighting can last in a told order.

Lots are told by their numbers. Steps are triples (one, other, hours), as those of sayings, that tell: lot other is
lit so many hours behind lot one at the most; those of the doors, and that each lot is lit ahead of the next one.
"""

from hearths.errors import NoFireSo
from hearths.orders import fault_of, need_order, places_in
from hearths.plain import is_row
from hearths.sayings import row_to, rows_from, turned
from hearths.twohours import need_hours
from hearths.ways import ahead_from


def _need_fire_so(house, woods, order):
    """Raises the errors of woods and of an order, then NoFireSo if no fire has it."""
    need_order(house, woods, order)
    fault = fault_of(house, woods, order)
    if fault is not None:
        raise NoFireSo(fault)


def _lit_by(house, order):
    """The dict, in the order, from all rooms but the first one to those from which they are lit."""
    ahead = ahead_from(house, order[0][0])
    return {room: ahead[room] for room in list(places_in(order))[1:]}


def _door_steps(house, woods, order):
    """The dict from the steps of the doors to a room that is lit by such a one."""
    places = places_in(order)
    return {(places[before], places[room], woods[before]): room for room, before in _lit_by(house, order).items()}


def _all_steps(house, woods, order):
    return list(_door_steps(house, woods, order)) + [(at, at - 1, -1) for at in range(1, len(order))]


def _longest(house, woods, order):
    hours, _ = rows_from(len(order), _all_steps(house, woods, order), 0)
    return hours[len(order) - 1]


def longest_in_order(house, woods, order):
    _need_fire_so(house, woods, order)
    return _longest(house, woods, order)


def worth_of_row(house, woods, order, thing):
    _need_fire_so(house, woods, order)
    lit_by = _lit_by(house, order)
    if not is_row(thing) or not all([isinstance(room, str) and room in lit_by for room in thing]):
        return None
    places = places_in(order)
    worth = 0
    reached = 0
    for room in thing:
        before = lit_by[room]
        if places[before] > reached:
            return None
        worth += woods[before] - (reached - places[before])
        reached = places[room]
    return worth if reached == len(order) - 1 else None


def bounds_row(house, woods, order):
    _need_fire_so(house, woods, order)
    if len(order) == 1:
        return []
    rooms = _door_steps(house, woods, order)
    _, came = rows_from(len(order), _all_steps(house, woods, order), 0)
    return [rooms[step] for step in row_to(came, 0, len(order) - 1) if step in rooms]


def fire_lasting(house, woods, order, hours):
    """All lots as early as the last one, so many hours behind the first one at the least, allows."""
    _need_fire_so(house, woods, order)
    need_hours(hours)
    last = len(order) - 1
    if not last <= hours <= _longest(house, woods, order):
        return None
    steps = _all_steps(house, woods, order) + [(last, 0, -hours)]
    back, _ = rows_from(len(order), turned(steps), 0)
    places = places_in(order)
    return {room: -back[places[room]] for room in house.rooms()}
