"""Orders none of whose lots has more rooms than there are brands."""

from hearths.errors import BadMany
from hearths.ordercounts import Lighting
from hearths.plain import is_from_one
from hearths.woods import need_woods


def _order_from(house, woods, first, many):
    """An order with a first room and at most so many rooms in a lot, None if there is none."""
    lighting = Lighting(house, woods, first, many)
    orders = [{} for _ in range(len(house))]
    orders[-1][lighting.state_of([lighting.new_row(first)])] = [[first]]
    for cold in range(len(house) - 1, 0, -1):
        for state, order in list(orders[cold].items()):
            for lot, behind, _ in lighting.next_states(state):
                orders[lighting.cold_behind(behind)][behind] = order + [sorted(lot)]
    return orders[0].get(())


def _order_with(house, woods, many):
    for first in house.rooms():
        order = _order_from(house, woods, first, many)
        if order is not None:
            return order
    return None


def order_within(house, woods, many):
    need_woods(house, woods)
    if not is_from_one(many):
        raise BadMany(many)
    return _order_with(house, woods, many)


def least_brands(house, woods):
    need_woods(house, woods)
    many = 1
    while _order_with(house, woods, many) is None:
        many += 1
    return many
