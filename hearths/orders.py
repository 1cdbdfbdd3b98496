"""Orders of lighting: lot by lot, those of one lot in one hour."""

from hearths.errors import BadOrder
from hearths.fires import need_fire
from hearths.houses import is_room, rooms_near
from hearths.plain import is_row
from hearths.woods import need_woods


def _wrong_in_order(house, thing):
    """The first index at which a thing is no order, how many there are if only rooms lack, None for an order."""
    if not is_row(thing):
        return 0
    seen = {}
    for at, lot in enumerate(thing):
        if not is_row(lot) or len(lot) == 0 or not all([is_room(house, room) for room in lot]):
            return at
        if any([one >= other for one, other in zip(lot, lot[1:])]) or any([room in seen for room in lot]):
            return at
        for room in lot:
            seen[room] = True
    return None if len(seen) == len(house) else len(thing)


def is_order(house, thing):
    return _wrong_in_order(house, thing) is None


def need_order(house, woods, order):
    """Raises BadWoods, then BadOrder, for what is none."""
    need_woods(house, woods)
    wrong = _wrong_in_order(house, order)
    if wrong is not None:
        raise BadOrder(wrong)


def lots_of(hours):
    """The lots of rooms by their hours."""
    lots = {hour: [] for hour in sorted(list(hours.values()))}
    for room in sorted(list(hours)):
        lots[hours[room]].append(room)
    return list(lots.values())


def places_in(order):
    """The dict from all rooms of a right order, in its order, to the numbers of their lots."""
    return {room: at for at, lot in enumerate(order) for room in lot}


def fault_of(house, woods, order):
    """What order_fault tells of a right order."""
    near = rooms_near(house)
    places = places_in(order)
    for room in list(places)[1:]:
        ahead = [far for far in near[room] if places[far] < places[room]]
        if not ahead:
            return ("cold", room)
        many = places[room] - places[ahead[0]]
        if many > woods[ahead[0]]:
            return ("late", room, many)
    return None


def order_of(house, woods, fire):
    need_fire(house, woods, fire)
    return lots_of(fire)


def fire_in_order(house, woods, order):
    need_order(house, woods, order)
    if fault_of(house, woods, order) is not None:
        return None
    places = places_in(order)
    return {room: places[room] for room in house.rooms()}


def order_fault(house, woods, order):
    need_order(house, woods, order)
    return fault_of(house, woods, order)
