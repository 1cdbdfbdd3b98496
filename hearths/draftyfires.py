"""The rule for fires with drafts: one that fits a book, or a paper.

With the first room told, all that is noted behind a room lets it be lit from an hour to another one, but
not while the door to it is shut. As drafts are safe, hours without such ones leave no hole ahead of them.
"""

from hearths.books import need_book
from hearths.claimlists import first_clash
from hearths.drafts import closed_hours, first_open, last_open, need_drafts, open_stretches
from hearths.houses import need_room
from hearths.plain import ascending, bad_index, joined_stretches
from hearths.ways import ahead_from, way_back


def _need_all(house, woods, drafts, book):
    need_drafts(house, woods, drafts)
    need_book(house, book)


def _drafty_ends(ahead, woods, closed, book):
    """Between which hours the rooms must be lit of which anything is told, at both of which they can be.

    A pair of dicts to the least and to the greatest hour, None if there is no fire with this first room.
    """
    low = dict(book)
    high = dict(book)
    for room in reversed(list(ahead)):
        before = ahead[room]
        if room in low:
            hours = closed.get((before, room), {})
            low[room] = first_open(hours, low[room])
            high[room] = last_open(hours, high[room])
            if low[room] > high[room]:
                return None
            if before is not None:
                least, most = low[room] - woods[before], high[room] - 1
                low[before] = max(least, low.get(before, least))
                high[before] = min(most, high.get(before, most))
    return low, high


def _early_fire(ahead, closed, ends):
    """The fire with drafts between such ends, each hour as early as can be."""
    low, _ = ends
    fire = {}
    for room, before in ahead.items():
        if before is None:
            fire[room] = low.get(room, 0)
        else:
            soonest = fire[before] + 1
            fire[room] = first_open(closed.get((before, room), {}), max(soonest, low.get(room, soonest)))
    return ascending(fire)


def firsts_with_drafts(house, woods, drafts, book):
    """The ascending list of the first rooms of fires with right drafts that fit a right book."""
    closed = closed_hours(drafts)
    firsts = []
    for first in house.rooms():
        if _drafty_ends(ahead_from(house, first), woods, closed, book) is not None:
            firsts.append(first)
    return firsts


def drafty_fire(house, woods, drafts, book):
    _need_all(house, woods, drafts, book)
    closed = closed_hours(drafts)
    for first in house.rooms():
        ahead = ahead_from(house, first)
        ends = _drafty_ends(ahead, woods, closed, book)
        if ends is not None:
            return _early_fire(ahead, closed, ends)
    return None


def drafty_paper(house, woods, drafts, book):
    _need_all(house, woods, drafts, book)
    if firsts_with_drafts(house, woods, drafts, book):
        return None
    noted = sorted(list(book))
    clash = first_clash(len(noted), _firsts_of_pairs(house, woods, drafts, book))
    return [noted[at] for at in clash]


def _firsts_of_pairs(house, woods, drafts, book):
    """The dict from pairs of indexes of noted rooms to the first rooms by which both are so, as bits."""
    closed = closed_hours(drafts)
    noted = sorted(list(book))
    bits = {(one, other): 0 for other in range(len(noted)) for one in range(other + 1)}
    bit = 1
    for first in house.rooms():
        ahead = ahead_from(house, first)
        for one, other in list(bits):
            two = {noted[at]: book[noted[at]] for at in (one, other)}
            if _drafty_ends(ahead, woods, closed, two) is not None:
                bits[(one, other)] += bit
        bit += bit
    return bits


def is_drafty_paper(house, woods, drafts, book, thing):
    _need_all(house, woods, drafts, book)
    if bad_index(thing, lambda room: isinstance(room, str) and room in book) is not None:
        return False
    return not firsts_with_drafts(house, woods, drafts, {room: book[room] for room in thing})


def drafty_firsts(house, woods, drafts, book):
    _need_all(house, woods, drafts, book)
    return firsts_with_drafts(house, woods, drafts, book)


def stretches_with_drafts(house, woods, drafts, book, room):
    """The stretches of the hours of a room in fires with right drafts that fit a right book, not empty."""
    closed = closed_hours(drafts)
    stretches = []
    for first in house.rooms():
        ahead = ahead_from(house, first)
        ends = _drafty_ends(ahead, woods, closed, book)
        if ends is not None:
            span = _span_on_way(ahead, woods, closed, ends, room)
            stretches.extend(open_stretches([span], closed.get((ahead[room], room), {})))
    return joined_stretches(stretches)


def _span_on_way(ahead, woods, closed, ends, room):
    """The least and the greatest hour of a room with a told first room."""
    low, high = ends
    rooms = way_back(ahead, room)[::-1]
    least, most = low[rooms[0]], high[rooms[0]]
    for near, far in zip(rooms, rooms[1:]):
        hours = closed.get((near, far), {})
        least = first_open(hours, max(least + 1, low.get(far, least + 1)))
        most = last_open(hours, min(most + woods[near], high.get(far, most + woods[near])))
    return (least, most)


def drafty_hours(house, woods, drafts, book, room):
    _need_all(house, woods, drafts, book)
    need_room(house, room)
    if len(book) == 0:
        return [(None, None)]
    return stretches_with_drafts(house, woods, drafts, book, room)
