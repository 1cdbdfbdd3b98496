"""How many blazes there are, these in order, and the chances that fire is made in a room."""

from hearths.blazes import need_blaze
from hearths.firecounts import product_of
from hearths.firenumbers import need_number
from hearths.fittings import noted_counts, shifted_sums, times
from hearths.houses import need_room, rooms_near
from hearths.plain import lowest_terms
from hearths.ways import ahead_from
from hearths.woods import need_woods


def _how_many(house, woods):
    return product_of([woods[one] + woods[other] + 1 for one, other in house.doors()])


def blaze_count(house, woods):
    need_woods(house, woods)
    return _how_many(house, woods)


def _row_product(one, other):
    product = [0 for _ in range(len(one) + len(other) - 1)]
    for at, number in enumerate(one):
        for far, factor in enumerate(other):
            product[at + far] += number * factor
    return product


def _row_sum(one, longer):
    """The sum of two rows, the latter one no shorter."""
    return [number + (one[at] if at < len(one) else 0) for at, number in enumerate(longer)]


def blazes_by_fires(house, woods):
    """Of each branch two rows tell how many ways there are with 0, 1, .. rooms made in it.

    One is for a room with an earlier one behind it, one for a room without; the room itself is not among
    the made ones yet, as it can be lit from ahead.
    """
    need_woods(house, woods)
    first = house.rooms()[0]
    ahead = ahead_from(house, first)
    lit = {room: [0] for room in ahead}
    unlit = {room: [1] for room in ahead}
    for room in reversed(list(ahead)):
        before = ahead[room]
        if before is not None:
            made = _row_sum(lit[room], [0] + unlit[room])
            from_ahead = [woods[before] * number for number in _row_sum(lit[room], unlit[room])]
            not_earlier = _row_sum(from_ahead, made)
            earlier = [woods[room] * number for number in made]
            lit[before] = _row_sum(_row_product(lit[before], _row_sum(not_earlier, earlier)),
                                   _row_product(unlit[before], earlier))
            unlit[before] = _row_product(unlit[before], not_earlier)
    return _row_sum(lit[first], [0] + unlit[first])[1:]


def _counts_by_hour(house, woods, book, room):
    """The dict from the hours of a room to how many blazes that have a book, not empty, have them."""
    ahead = ahead_from(house, room)
    ways = {here: noted_counts(book, here) for here in ahead}
    for here in reversed(list(ahead)):
        before = ahead[here]
        if before is not None:
            ways[before] = times(ways[before], shifted_sums(ways[here], -woods[here], woods[before]))
    return ways[room]


def blaze_at(house, woods, number):
    need_woods(house, woods)
    need_number(number, _how_many(house, woods))
    rooms = house.rooms()
    blaze = {rooms[0]: 0}
    for room in rooms[1:]:
        counts = _counts_by_hour(house, woods, blaze, room)
        for hour in sorted(list(counts)):
            if number < counts[hour]:
                blaze[room] = hour
                break
            number -= counts[hour]
    return blaze


def blaze_number(house, woods, blaze):
    need_blaze(house, woods, blaze)
    rooms = house.rooms()
    known = {rooms[0]: 0}
    number = 0
    for room in rooms[1:]:
        hour = blaze[room] - blaze[rooms[0]]
        counts = _counts_by_hour(house, woods, known, room)
        number += sum([counts[earlier] for earlier in counts if earlier < hour])
        known[room] = hour
    return number


def _chance(house, woods, room):
    near = rooms_near(house)[room]
    over = product_of([woods[room] + 1 for _ in near])
    under = product_of([woods[room] + woods[far] + 1 for far in near])
    return lowest_terms(over, under)


def made_chance(house, woods, room):
    need_woods(house, woods)
    need_room(house, room)
    return _chance(house, woods, room)


def mean_fires(house, woods):
    need_woods(house, woods)
    mean = (0, 1)
    for room in house.rooms():
        over, under = _chance(house, woods, room)
        mean = lowest_terms(mean[0] * under + over * mean[1], mean[1] * under)
    return mean
