"""How many fires with the first hour 0 there are, and by when all their rooms are lit."""

from hearths.hourspans import late_fire_in
from hearths.houses import need_room, rooms_near
from hearths.steps import step_limits
from hearths.twohours import need_hours
from hearths.ways import ahead_from, doors_ahead, doors_inward
from hearths.woods import need_woods, woods_ahead


def product_of(numbers):
    product = 1
    for number in numbers:
        product = product * number
    return product


def fires_begun(house, woods, room):
    """How many fires with the first hour 0 begin in a room."""
    return product_of(list(step_limits(ahead_from(house, room), woods).values()))


def count_fires(house, woods):
    need_woods(house, woods)
    return sum([fires_begun(house, woods, room) for room in house.rooms()])


def count_from(house, woods, room):
    need_woods(house, woods)
    need_room(house, room)
    return fires_begun(house, woods, room)


def _counts_by_hours(house, woods):
    """The list of how many fires have all rooms lit by the hours 0, 1, .., to that by which all have."""
    near = rooms_near(house)
    greatest = max([max(list(woods_ahead(ahead_from(house, room), woods).values())) for room in near])
    through = {}
    for room, far in doors_inward(house):
        counts = _multiplied([through[(far, further)] for further in near[far] if further != room], greatest)
        through[(room, far)] = _counts_through(counts, woods[room])
    begun = [_multiplied([through[(first, far)] for far in near[first]], greatest) for first in near]
    return [sum([counts[hour] for counts in begun]) for hour in range(greatest + 1)]


def _multiplied(rows, greatest):
    counts = [1 for _ in range(greatest + 1)]
    for row in rows:
        counts = [one * other for one, other in zip(counts, row)]
    return counts


def _counts_through(counts, wood):
    """How often what lies behind a door is lit within 0, 1, .. hours behind the room ahead, with so much wood."""
    through = []
    many = 0
    for hours in range(len(counts)):
        through.append(many)
        many += counts[hours]
        if hours >= wood:
            many -= counts[hours - wood]
    return through


def last_counts(house, woods):
    need_woods(house, woods)
    counts = _counts_by_hours(house, woods)
    just = {hour: counts[hour] - counts[hour - 1] for hour in range(1, len(counts))}
    just[0] = counts[0]
    return {hour: just[hour] for hour in range(len(counts)) if just[hour] > 0}


def count_lit_by(house, woods, hours):
    need_woods(house, woods)
    need_hours(hours)
    if hours < 0:
        return 0
    counts = _counts_by_hours(house, woods)
    return counts[min(hours, len(counts) - 1)]


def fire_lit_at(house, woods, hours):
    """With a first room that can have it, each room is lit as late as all beyond it can be lit by then."""
    need_woods(house, woods)
    need_hours(hours)
    for first in house.rooms():
        ahead = ahead_from(house, first)
        least = max(list(doors_ahead(ahead).values()))
        most = max(list(woods_ahead(ahead, woods).values()))
        if least <= hours <= most:
            spans = {room: (0, 0) if room == first else (0, hours) for room in ahead}
            return late_fire_in(ahead, woods, spans)
    return None
