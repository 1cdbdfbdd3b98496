"""Tours in time that begin with a told room, and the wood that is wanted for them.

Seen from the first room, each room has branches: the rooms behind its doors but that by which one comes from
the first room. Each branch takes (1 + back) hours for each of its rooms, there and back, so that only the last
one of a room can be come to too late, and the orders of the branches of different rooms are free of one another.
"""

from math import factorial

from hearths.houses import need_room
from hearths.tours import need_woods_and_back
from hearths.ways import ahead_from, doors_ahead, way_back


def sizes_behind(ahead):
    """The dict from all rooms to how many rooms they are with all behind them."""
    sizes = {room: 1 for room in ahead}
    for room in reversed(list(ahead)):
        if ahead[room] is not None:
            sizes[ahead[room]] += sizes[room]
    return sizes


def branches_behind(ahead):
    """The dict from all rooms to the ascending lists of their branches."""
    branches = {room: [] for room in ahead}
    for room in sorted(list(ahead)):
        if ahead[room] is not None:
            branches[ahead[room]].append(room)
    return branches


def _wood_for(back, sizes):
    """What a room wants with branches of such sizes: the greatest one is best come to last."""
    return 1 + (1 + back) * (sum(sizes) - max(sizes)) if sizes else 1


def wanted_woods(house, back, first):
    """The dict, ascending, from all rooms to the wood that they want."""
    ahead = ahead_from(house, first)
    sizes = sizes_behind(ahead)
    branches = branches_behind(ahead)
    return {room: _wood_for(back, [sizes[far] for far in branches[room]]) for room in house.rooms()}


def _lacking(house, woods, back, first):
    wanted = wanted_woods(house, back, first)
    return {room: wanted[room] - woods[room] for room in wanted if wanted[room] > woods[room]}


def can_be_last(wood, back, branches, sizes):
    """The dict from the branches of a room with so much wood that can be the last ones to True."""
    total = sum([sizes[far] for far in branches])
    return {far: True for far in branches if 1 + (1 + back) * (total - sizes[far]) <= wood}


def last_branches(woods, back, ahead):
    """The dict from all rooms to the pair of the list of their branches and what can_be_last tells of them."""
    sizes = sizes_behind(ahead)
    branches = branches_behind(ahead)
    return {room: (branches[room], can_be_last(woods[room], back, branches[room], sizes)) for room in ahead}


def orders_of(branches, lasts):
    """In how many orders one can go through branches, one of lasts being the last one."""
    if not branches:
        return 1
    return len([far for far in branches if far in lasts]) * factorial(len(branches) - 1)


def count_orders_of_all(pairs):
    """How many tours there are, by the dict that last_branches tells."""
    many = 1
    for branches, lasts in pairs.values():
        many = many * orders_of(branches, lasts)
    return many


def orders_behind(branches, lasts, far):
    """In how many orders one can go on where one goes through a branch first, the only one if it can be last."""
    return orders_of([other for other in branches if other != far], lasts)


def tour_with_number(pairs, first, number):
    """The tour with a number below how many there are, as lists compare, by the dict that last_branches tells.

    Tours that begin alike part at a room, by the branch that comes next there.
    """
    left = {room: branches for room, (branches, _) in pairs.items()}
    many = count_orders_of_all(pairs)
    tour = [first]
    back = [first]
    while len(tour) < len(pairs):
        here = back[-1]
        if not left[here]:
            back = back[:-1]
            continue
        lasts = pairs[here][1]
        each = many // orders_of(left[here], lasts)
        for far in left[here]:
            many = each * orders_behind(left[here], lasts, far)
            if number < many:
                break
            number -= many
        left[here] = [other for other in left[here] if other != far]
        tour.append(far)
        back = back + [far]
    return tour


def tour_from(house, woods, back, first):
    need_woods_and_back(house, woods, back)
    need_room(house, first)
    pairs = last_branches(woods, back, ahead_from(house, first))
    return tour_with_number(pairs, first, 0) if count_orders_of_all(pairs) > 0 else None


def short_room(house, woods, back, first):
    need_woods_and_back(house, woods, back)
    need_room(house, first)
    wanted = wanted_woods(house, back, first)
    for room in wanted:
        if wanted[room] > woods[room]:
            return (room, wanted[room])
    return None


def firsts_of_tours(house, woods, back):
    need_woods_and_back(house, woods, back)
    return [first for first in house.rooms() if not _lacking(house, woods, back, first)]


def _counts_by_last(house, woods, back, first):
    """The dict, ascending, from the rooms that can be lit last to in how many tours: on the way each branch is last."""
    ahead = ahead_from(house, first)
    pairs = last_branches(woods, back, ahead)
    counts = {}
    for room in house.rooms():
        if not pairs[room][0]:
            there = dict(pairs)
            for far in way_back(ahead, room)[:-1]:
                branches, lasts = pairs[ahead[far]]
                there[ahead[far]] = (branches, {far: True} if far in lasts else {})
            counts[room] = count_orders_of_all(there)
    return {room: counts[room] for room in counts if counts[room] > 0}


def last_rooms(house, woods, back, first):
    need_woods_and_back(house, woods, back)
    need_room(house, first)
    return _counts_by_last(house, woods, back, first)


def tour_lengths(house, woods, back, first):
    need_woods_and_back(house, woods, back)
    need_room(house, first)
    doors = doors_ahead(ahead_from(house, first))
    lengths = {}
    for room, many in _counts_by_last(house, woods, back, first).items():
        hour = (1 + back) * (len(house) - 1) - back * doors[room]
        lengths[hour] = lengths.get(hour, 0) + many
    return {hour: lengths[hour] for hour in sorted(list(lengths))}


def lacking_wood(house, woods, back, first):
    need_woods_and_back(house, woods, back)
    need_room(house, first)
    return _lacking(house, woods, back, first)


def least_wanted(house, woods, back):
    need_woods_and_back(house, woods, back)
    return min([(sum(list(_lacking(house, woods, back, first).values())), first) for first in house.rooms()])
