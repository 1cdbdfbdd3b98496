"""Chances of all rooms, all fires with the first hour 0 being as likely: to be lit by an hour, and to burn at one."""

from hearths.errors import BadChance
from hearths.firechances import chances_of, counts_of_rooms, mean_of
from hearths.firecounts import count_fires, last_counts
from hearths.plain import is_integer, is_row, lowest_terms
from hearths.twohours import need_hours
from hearths.woods import need_woods


def _many_between(counts, least, most):
    """How many fires have an hour from least to most."""
    return sum([many for hour, many in counts.items() if least <= hour <= most])


def lit_chances(house, woods, hours):
    need_woods(house, woods)
    need_hours(hours)
    counts = counts_of_rooms(house, woods)
    return chances_of({room: _many_between(counts[room], 0, hours) for room in counts}, count_fires(house, woods))


def last_chances(house, woods):
    return chances_of(last_counts(house, woods), count_fires(house, woods))


def mean_last(house, woods):
    return mean_of(last_counts(house, woods))


def _is_chance(thing):
    if not is_row(thing) or len(thing) != 2:
        return False
    return is_integer(thing[0]) and is_integer(thing[1]) and 1 <= thing[0] <= thing[1]


def surely_by(house, woods, chance):
    need_woods(house, woods)
    if not _is_chance(chance):
        raise BadChance(chance)
    over, under = chance
    many = count_fires(house, woods)
    lit = 0
    for hour, just in last_counts(house, woods).items():
        lit += just
        if lit * under >= over * many:
            return hour
    return None


def mean_burning(house, woods, hours):
    need_woods(house, woods)
    need_hours(hours)
    counts = counts_of_rooms(house, woods)
    burning = sum([_many_between(counts[room], hours - woods[room] + 1, hours) for room in counts])
    return lowest_terms(burning, count_fires(house, woods))
