"""What follows from sayings, with a told first room: the closest bounds of two rooms, and all they tell."""

from hearths.errors import BadSaying, NoFire
from hearths.houses import need_room
from hearths.sayings import (is_kept, is_saying, need_first_and_sayings, ring_of_steps, row_to, rows_from,
                             steps_by)


def _need_two(house, woods, first, sayings, one, other):
    """The steps, no ring among them; raises all errors of what is asked of two rooms."""
    need_first_and_sayings(house, woods, first, sayings)
    need_room(house, one)
    need_room(house, other)
    return need_no_ring(house, steps_by(house, woods, first, sayings))


def need_no_ring(house, steps):
    """The same steps; raises NoFire if there is a ring among them."""
    if ring_of_steps(house, steps) is not None:
        raise NoFire()
    return steps


def bounds_by(house, steps, one, other):
    """The pair of the least and the most hours that other is lit behind one by steps without a ring."""
    back, _ = rows_from(len(house), steps, other)
    there, _ = rows_from(len(house), steps, one)
    return (-back[one], there[other])


def bounds(house, woods, first, sayings, one, other):
    steps = _need_two(house, woods, first, sayings, one, other)
    return bounds_by(house, steps, one, other)


def row_by(house, woods, first, sayings, one, other):
    steps = _need_two(house, woods, first, sayings, one, other)
    if one == other:
        return []
    _, came = rows_from(len(house), steps, one)
    return row_to(came, one, other)


def ahead_word(house, woods, first, sayings, one, other):
    steps = _need_two(house, woods, first, sayings, one, other)
    least, most = bounds_by(house, steps, one, other)
    if least > 0:
        return "always"
    return "sometimes" if most > 0 else "never"


def sure_ahead(house, woods, first, sayings):
    need_first_and_sayings(house, woods, first, sayings)
    steps = need_no_ring(house, steps_by(house, woods, first, sayings))
    pairs = []
    for other in house.rooms():
        hours, _ = rows_from(len(house), steps, other)
        pairs.extend([(one, other) for one in hours if hours[one] < 0])
    return sorted(pairs)


def follows_by(house, steps, saying):
    least, most = bounds_by(house, steps, saying[0], saying[1])
    return is_kept(saying, least, most)


def follows(house, woods, first, sayings, saying):
    need_first_and_sayings(house, woods, first, sayings)
    if not is_saying(house, saying):
        raise BadSaying(saying)
    steps = need_no_ring(house, steps_by(house, woods, first, sayings))
    return follows_by(house, steps, saying)


def needless_ones(house, woods, first, sayings):
    """The indexes of the sayings each of which follows from the others, where some fire keeps all."""
    indexes = []
    for at, saying in enumerate(sayings):
        others = [far for index, far in enumerate(sayings) if index != at]
        if follows_by(house, steps_by(house, woods, first, others), saying):
            indexes.append(at)
    return indexes


def needless(house, woods, first, sayings):
    need_first_and_sayings(house, woods, first, sayings)
    need_no_ring(house, steps_by(house, woods, first, sayings))
    return needless_ones(house, woods, first, sayings)
