"""Fires that have as many claims of a list as can be.

How many claims beyond a door a fire has at the most, by an hour, is kept as LEVELS: the ascending list
of pairs (hour, number), each number holding from its hour on to the next one, 0 ahead of the first.
"""

from hearths.claimlists import need_claims
from hearths.houses import rooms_near
from hearths.plain import ascending
from hearths.ways import ahead_from, doors_inward


def added_levels(rows):
    changes = {}
    for levels in rows:
        last = 0
        for hour, number in levels:
            changes[hour] = changes.get(hour, 0) + number - last
            last = number
    added = []
    number = 0
    for hour in sorted(list(changes)):
        if changes[hour] != 0:
            number += changes[hour]
            added.append((hour, number))
    return added


def highest_level(levels, least, most):
    """The greatest number at the hours from least to most."""
    best = 0
    for hour, number in levels:
        if hour > most:
            break
        best = number if hour <= least else max(best, number)
    return best


def levels_through(levels, wood):
    """By the hour of a room with so much wood, the greatest number when the room behind a door is lit."""
    through = []
    last = 0
    for hour in sorted(set([hour - wood for hour, _ in levels] + [hour - 1 for hour, _ in levels])):
        number = highest_level(levels, hour + 1, hour + wood)
        if number != last:
            through.append((hour, number))
            last = number
    return through


def levels_of_claims(house, claims, weights):
    """The dict from all rooms to the levels of the claims of each alone, each claim counted by its weight."""
    rows = {room: [] for room in house.rooms()}
    for at, (room, least, most) in enumerate(claims):
        rows[room].append([(least, weights[at]), (most + 1, 0)])
    return {room: added_levels(rows[room]) for room in rows}


def levels_by_firsts(house, woods, claims, weights):
    """The dict from all rooms to the levels of all claims, by their hours as first rooms."""
    near = rooms_near(house)
    alone = levels_of_claims(house, claims, weights)
    beyond = {}
    for room, far in doors_inward(house):
        rows = [alone[far]] + [beyond[(far, further)] for further in near[far] if further != room]
        beyond[(room, far)] = levels_through(added_levels(rows), woods[room])
    return {first: added_levels([alone[first]] + [beyond[(first, far)] for far in near[first]]) for first in near}


def greatest_number(levels):
    return max([0] + [number for _, number in levels])


def most_weight(house, woods, claims, weights):
    """The greatest sum of weights of claims that some fire has."""
    tops = levels_by_firsts(house, woods, claims, weights)
    return max([greatest_number(levels) for levels in tops.values()])


def _best_hour(levels, least, most):
    """The first hour from least to most that has the greatest number."""
    best = highest_level(levels, least, most)
    for hour, _ in levels:
        if least < hour <= most and highest_level(levels, least, hour - 1) < best:
            least = hour
    return least


def _best_fire(house, woods, claims):
    tops = levels_by_firsts(house, woods, claims, [1 for _ in claims])
    first = max(house.rooms(), key=lambda room: greatest_number(tops[room]))
    ahead = ahead_from(house, first)
    levels = _levels_seen(house, woods, claims, ahead)
    fire = {}
    for room, before in ahead.items():
        if before is not None:
            fire[room] = _best_hour(levels[room], fire[before] + 1, fire[before] + woods[before])
        elif levels[room]:
            fire[room] = _best_hour(levels[room], levels[room][0][0], levels[room][-1][0])
        else:
            fire[room] = 0
    return ascending(fire)


def _levels_seen(house, woods, claims, ahead):
    """The dict from all rooms to the levels, by their hours, of their claims and those of all behind them."""
    alone = levels_of_claims(house, claims, [1 for _ in claims])
    rows = {room: [alone[room]] for room in alone}
    levels = {}
    for room in reversed(list(ahead)):
        levels[room] = added_levels(rows[room])
        if ahead[room] is not None:
            rows[ahead[room]].append(levels_through(levels[room], woods[ahead[room]]))
    return levels


def most_right(house, woods, claims):
    need_claims(house, woods, claims)
    return most_weight(house, woods, claims, [1 for _ in claims])


def fire_of_most(house, woods, claims):
    need_claims(house, woods, claims)
    return _best_fire(house, woods, claims)


def right_ones(house, woods, claims):
    need_claims(house, woods, claims)
    fire = _best_fire(house, woods, claims)
    return [at for at, (room, least, most) in enumerate(claims) if least <= fire[room] <= most]


def always_right(house, woods, claims):
    """A claim is always right if without it no fire has as many of the others."""
    most = most_right(house, woods, claims)
    always = []
    for at in range(len(claims)):
        if most_weight(house, woods, claims, [0 if at == index else 1 for index in range(len(claims))]) < most:
            always.append(at)
    return always


def always_false(house, woods, claims):
    """A claim is always false if fires that have it, as so great a weight ensures, have fewer in all."""
    most = most_right(house, woods, claims)
    many = len(claims)
    never = []
    for at in range(many):
        weights = [many + 1 if at == index else 1 for index in range(many)]
        if most_weight(house, woods, claims, weights) - many < most:
            never.append(at)
    return never
