"""Hours of the rooms, and of the first ones, in the fires that fit a book."""

from hearths.books import need_woods_and_book
from hearths.firstrooms import begin_hours, fires_by_first
from hearths.houses import need_room
from hearths.plain import joined_stretches


def _spans_by_first(house, woods, book, room):
    """The dict from first rooms to the pair of the least and the greatest hour of room, by a book not empty."""
    fires = fires_by_first(house, woods, book)
    return {first: (early[room], late[room]) for first, (early, late) in fires.items()}


def could_be(house, woods, book, room):
    need_woods_and_book(house, woods, book)
    need_room(house, room)
    if len(book) == 0:
        return [(None, None)]
    return joined_stretches(list(_spans_by_first(house, woods, book, room).values()))


def _ends(house, woods, book):
    """The pair of the dicts of the earliest and the latest hours, None if the book is empty or no fire fits."""
    need_woods_and_book(house, woods, book)
    fires = fires_by_first(house, woods, book)
    if len(book) == 0 or len(fires) == 0:
        return None
    earliest = {room: min([early[room] for early, _ in fires.values()]) for room in house.rooms()}
    latest = {room: max([late[room] for _, late in fires.values()]) for room in house.rooms()}
    return (earliest, latest)


def earliest_hours(house, woods, book):
    ends = _ends(house, woods, book)
    return None if ends is None else ends[0]


def latest_hours(house, woods, book):
    ends = _ends(house, woods, book)
    return None if ends is None else ends[1]


def sure_hours(house, woods, book):
    ends = _ends(house, woods, book)
    if len(book) == 0:
        return {}
    if ends is None:
        return None
    earliest, latest = ends
    return {room: earliest[room] for room in earliest if earliest[room] == latest[room]}


def telling_hours(house, woods, book, room):
    need_woods_and_book(house, woods, book)
    need_room(house, room)
    if len(book) == 0:
        return [(None, None)] if len(house) == 1 else []
    return _once(list(_spans_by_first(house, woods, book, room).values()))


def _once(spans):
    """The stretches of the integers that just one of some spans has."""
    changes = {}
    for least, most in spans:
        changes[least] = changes.get(least, 0) + 1
        changes[most + 1] = changes.get(most + 1, 0) - 1
    once = []
    many = 0
    begun = 0
    for hour in sorted(list(changes)):
        if many == 1:
            once.append((begun, hour - 1))
        many += changes[hour]
        begun = hour
    return joined_stretches(once)


def begun_hours(house, woods, book):
    begun = begin_hours(house, woods, book)
    if len(book) == 0:
        return [(None, None)]
    return joined_stretches(list(begun.values()))


def begun_first(house, woods, book):
    begun = begin_hours(house, woods, book)
    if len(book) == 0 or len(begun) == 0:
        return None
    hour = min([least for least, _ in begun.values()])
    return (hour, [first for first, (least, _) in begun.items() if least == hour])


def begun_last(house, woods, book):
    begun = begin_hours(house, woods, book)
    if len(book) == 0 or len(begun) == 0:
        return None
    hour = max([most for _, most in begun.values()])
    return (hour, [first for first, (_, most) in begun.items() if most == hour])
