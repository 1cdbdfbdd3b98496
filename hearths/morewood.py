"""What it costs to make a house warm for longer, or for less long, by wood."""

from hearths.errors import BadPrices
from hearths.houses import is_of_all
from hearths.lengths import need_length
from hearths.plain import ascending, is_from_one
from hearths.ways import ahead_from, doors_ahead
from hearths.woods import need_woods, woods_ahead


def is_prices(house, thing):
    return is_of_all(house, thing) and all([is_from_one(thing[room]) for room in house.rooms()])


def _need_prices(house, prices):
    if not is_prices(house, prices):
        raise BadPrices(prices)


def cheapest_more(house, woods, prices, length):
    """What a way lacks is laid on at its cheapest room."""
    need_woods(house, woods)
    _need_prices(house, prices)
    need_length(length)
    best = None
    for one in house.rooms():
        ahead = ahead_from(house, one)
        sums = woods_ahead(ahead, woods)
        cheapest = _cheapest_on_ways(ahead, prices)
        for other in house.rooms():
            lacking = max(0, length - sums[other] - woods[other])
            told = (lacking * prices[cheapest[other]], cheapest[other], lacking)
            best = told if best is None else min(best, told)
    price, room, lacking = best
    more = ascending(woods)
    more[room] += lacking
    return (price, more)


def _cheapest_on_ways(ahead, prices):
    """The dict from all rooms to one of the least price on the way from the first one."""
    cheapest = {}
    for room, before in ahead.items():
        if before is None or prices[room] < prices[cheapest[before]]:
            cheapest[room] = room
        else:
            cheapest[room] = cheapest[before]
    return cheapest


def cheapest_less(house, woods, prices, length):
    """From a first room each wood must be out by length, though its room is lit as early as can be."""
    need_woods(house, woods)
    _need_prices(house, prices)
    need_length(length)
    best = None
    for first in house.rooms():
        doors = doors_ahead(ahead_from(house, first))
        if max(list(doors.values())) < length:
            less = {room: min(woods[room], length - doors[room]) for room in house.rooms()}
            price = sum([prices[room] * (woods[room] - less[room]) for room in less])
            if best is None or price < best[0]:
                best = (price, less)
    return best
