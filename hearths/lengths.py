"""How long a house is warm: from the first lighting until all is out."""

from hearths.errors import BadHour, BadLength
from hearths.fires import need_fire
from hearths.hourspans import early_fire_in, late_fire_in
from hearths.houses import need_room
from hearths.plain import is_from_one, is_integer
from hearths.ways import ahead_from, doors_ahead
from hearths.woods import need_woods, woods_ahead


def need_hour(hour):
    if not is_integer(hour):
        raise BadHour(hour)


def need_length(length):
    if not is_from_one(length):
        raise BadLength(length)


def length_of(woods, fire):
    return max([fire[room] + woods[room] for room in fire]) - min(list(fire.values()))


def _burning_at(woods, fire, hour):
    return [room for room in sorted(list(fire)) if fire[room] <= hour < fire[room] + woods[room]]


def fire_length(house, woods, fire):
    need_fire(house, woods, fire)
    return length_of(woods, fire)


def burning(house, woods, fire, hour):
    need_fire(house, woods, fire)
    need_hour(hour)
    return _burning_at(woods, fire, hour)


def most_burning(house, woods, fire):
    """More burn than ahead only at an hour at which one is lit."""
    need_fire(house, woods, fire)
    best = (0, 0)
    for hour in sorted(list(fire.values())):
        many = len(_burning_at(woods, fire, hour))
        if many > best[0]:
            best = (many, hour)
    return best


def _lengths_seen(ahead, woods):
    """The pair of the least and the greatest length of the fires with this first room."""
    doors = doors_ahead(ahead)
    sums = woods_ahead(ahead, woods)
    return (max([doors[room] + woods[room] for room in ahead]), max([sums[room] + woods[room] for room in ahead]))


def lengths_from(house, woods, first):
    need_woods(house, woods)
    need_room(house, first)
    return _lengths_seen(ahead_from(house, first), woods)


def length_fire(house, woods, first, length):
    """Each room is lit as late as it and all beyond can be out by then."""
    need_woods(house, woods)
    need_room(house, first)
    need_length(length)
    ahead = ahead_from(house, first)
    least, most = _lengths_seen(ahead, woods)
    if not least <= length <= most:
        return None
    spans = {room: (0, 0) if room == first else (0, length - woods[room]) for room in ahead}
    return late_fire_in(ahead, woods, spans)


def all_lengths(house, woods):
    need_woods(house, woods)
    lengths = [_lengths_seen(ahead_from(house, first), woods) for first in house.rooms()]
    return (min([least for least, _ in lengths]), max([most for _, most in lengths]))


def short_fire(house, woods, length):
    need_woods(house, woods)
    need_length(length)
    for first in house.rooms():
        ahead = ahead_from(house, first)
        if _lengths_seen(ahead, woods)[0] <= length:
            return early_fire_in(ahead, woods, {})
    return None


def too_far(house, woods, length):
    need_woods(house, woods)
    need_length(length)
    for one in house.rooms():
        doors = doors_ahead(ahead_from(house, one))
        for other in house.rooms():
            if one <= other and doors[other] + woods[one] + woods[other] > 2 * length:
                return (one, other)
    return None
