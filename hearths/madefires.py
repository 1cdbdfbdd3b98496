"""Blazes whose made rooms are told, with their hours."""

from heapq import heappop, heappush

from hearths.blazebooks import latest_hours_by
from hearths.books import is_book
from hearths.errors import BadMade
from hearths.houses import need_room, rooms_near
from hearths.ways import ahead_from
from hearths.woods import need_woods, woods_ahead


def is_made(house, thing):
    return is_book(house, thing) and len(thing) > 0


def _need_made(house, woods, made):
    """Raises BadWoods, then BadMade, for what is none."""
    need_woods(house, woods)
    if not is_made(house, made):
        raise BadMade(made)


def _late_pair(house, woods, made):
    for one in sorted(list(made)):
        ahead = ahead_from(house, one)
        sums = woods_ahead(ahead, woods)
        for other in sorted(list(made)):
            if other != one and made[other] > made[one] + sums[ahead[other]]:
                return (one, other)
    return None


def made_blaze(house, woods, made):
    _need_made(house, woods, made)
    return None if _late_pair(house, woods, made) is not None else latest_hours_by(house, woods, made)


def made_late(house, woods, made):
    _need_made(house, woods, made)
    return _late_pair(house, woods, made)


def made_hours(house, woods, made, room):
    _need_made(house, woods, made)
    need_room(house, room)
    if _late_pair(house, woods, made) is not None:
        return None
    return (_earliest_hours(house, woods, made)[room], latest_hours_by(house, woods, made)[room])


def _hours_of_waiting(house, woods, made):
    """Ahead of which hour no room must be lit, or it would light a made one."""
    waiting = {}
    for one in made:
        ahead = ahead_from(house, one)
        hours = {}
        for room, before in ahead.items():
            if before is not None:
                # The rooms beside a made one are not earlier; each one further lights the one ahead in time.
                hours[room] = made[one] if before == one else hours[before] - woods[room]
                waiting[room] = max(hours[room], waiting.get(room, hours[room]))
    return waiting


def _earliest_hours(house, woods, made):
    """Each room that is not made is lit an hour behind the first one beside it, if it need not wait."""
    waiting = _hours_of_waiting(house, woods, made)
    queue = []
    for room in sorted(list(made)):
        heappush(queue, (made[room], room))
    hours = {}
    while queue:
        hour, room = heappop(queue)
        if room not in hours:
            hours[room] = hour
            for far in rooms_near(house)[room]:
                if far not in hours and far not in made:
                    heappush(queue, (max(hour + 1, waiting[far]), far))
    return hours
