"""Hearths that burn at once: at the hour 0 those that were lit then, or fewer hours ago than they have wood for."""

from hearths.claimlists import clash_of_claims
from hearths.hourspans import fire_in_spans
from hearths.houses import need_some
from hearths.mostclaims import fire_of_most, most_right
from hearths.woods import need_woods


def _burning_then(woods, some):
    """The claims that each of some rooms burns at the hour 0."""
    return [(room, 1 - woods[room], 0) for room in some]


def at_once(house, woods, some):
    need_woods(house, woods)
    need_some(house, some)
    return fire_in_spans(house, woods, {room: (least, most) for room, least, most in _burning_then(woods, some)})


def not_at_once(house, woods, some):
    need_woods(house, woods)
    need_some(house, some)
    rooms = sorted(some)
    clash = clash_of_claims(house, woods, _burning_then(woods, rooms))
    return None if clash is None else [rooms[at] for at in clash]


def most_at_once(house, woods):
    need_woods(house, woods)
    return most_right(house, woods, _burning_then(woods, house.rooms()))


def crowded_fire(house, woods):
    need_woods(house, woods)
    return fire_of_most(house, woods, _burning_then(woods, house.rooms()))
