"""Tours in time counted, and in order: as lists compare."""

from hearths.firenumbers import need_number
from hearths.houses import need_room
from hearths.tours import late_room, need_tour, need_woods_and_back
from hearths.toursfrom import count_orders_of_all, last_branches, orders_behind, orders_of, tour_with_number
from hearths.ways import ahead_from


def count_tours(house, woods, back, first):
    need_woods_and_back(house, woods, back)
    need_room(house, first)
    return count_orders_of_all(last_branches(woods, back, ahead_from(house, first)))


def tour_numbered(house, woods, back, first, number):
    need_woods_and_back(house, woods, back)
    need_room(house, first)
    pairs = last_branches(woods, back, ahead_from(house, first))
    need_number(number, count_orders_of_all(pairs))
    return tour_with_number(pairs, first, number)


def _number_of(pairs, ahead, tour):
    """The number of a tour in time: how many part from it by a branch ahead of its own."""
    left = {room: branches for room, (branches, _) in pairs.items()}
    many = count_orders_of_all(pairs)
    number = 0
    for room in tour[1:]:
        here = ahead[room]
        lasts = pairs[here][1]
        each = many // orders_of(left[here], lasts)
        number += sum([each * orders_behind(left[here], lasts, far) for far in left[here] if far < room])
        many = each * orders_behind(left[here], lasts, room)
        left[here] = [other for other in left[here] if other != room]
    return number


def tour_number(house, woods, back, tour):
    need_woods_and_back(house, woods, back)
    need_tour(house, tour)
    if late_room(house, woods, back, tour) is not None:
        return None
    ahead = ahead_from(house, tour[0])
    return _number_of(last_branches(woods, back, ahead), ahead, tour)


def next_tour(house, woods, back, tour):
    number = tour_number(house, woods, back, tour)
    if number is None:
        return None
    pairs = last_branches(woods, back, ahead_from(house, tour[0]))
    return tour_with_number(pairs, tour[0], number + 1) if number + 1 < count_orders_of_all(pairs) else None
