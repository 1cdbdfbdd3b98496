"""Woods told back: by which woods whole books are fires, and what wood one room must have."""

from hearths.books import need_woods_and_book
from hearths.errors import BadBooks
from hearths.houses import is_of_all, need_room, rooms_near
from hearths.plain import is_integer, is_row
from hearths.stretches import stretches_of


def _need_books(house, books):
    if not is_row(books) or len(books) == 0:
        raise BadBooks(0)
    for at, book in enumerate(books):
        if not is_of_all(house, book) or not all([is_integer(book[room]) for room in house.rooms()]):
            raise BadBooks(at)


def _why_no_fire(house, book):
    """What bars a whole book, whatever the woods: a door, a room and two beside it, or None."""
    for one, other in house.doors():
        if book[one] == book[other]:
            return (one, other)
    near = rooms_near(house)
    for room in near:
        earlier = [far for far in near[room] if book[far] < book[room]]
        if len(earlier) > 1:
            return (room, earlier[0], earlier[1])
    return None


def no_woods(house, books):
    _need_books(house, books)
    for at, book in enumerate(books):
        why = _why_no_fire(house, book)
        if why is not None:
            return (at,) + why
    return None


def woods_of(house, books):
    if no_woods(house, books) is not None:
        return None
    near = rooms_near(house)
    return {room: max([1] + [book[far] - book[room] for book in books for far in near[room]]) for room in near}


def _wood_told(woods, room, stretches):
    """What least_wood is, by the stretches."""
    most = 1
    for stretch in stretches:
        left = _left_to(woods, room, stretch)
        if room in stretch.part:
            most = max(most, left)
        elif left > 0:
            return None
    return most


def _left_to(woods, room, stretch):
    """What a stretch wants, less the woods of its rooms but this one."""
    return stretch.wants - sum([woods[far] for far in stretch.part if far != room])


def _need_two(house, woods, book, first, room):
    need_woods_and_book(house, woods, book)
    need_room(house, first)
    need_room(house, room)


def least_wood(house, woods, book, first, room):
    _need_two(house, woods, book, first, room)
    return _wood_told(woods, room, stretches_of(house, book, first))


def wanting_pair(house, woods, book, first, room):
    _need_two(house, woods, book, first, room)
    stretches = stretches_of(house, book, first)
    wood = _wood_told(woods, room, stretches)
    # Where there is a least wood, only stretches with the room want anything that is left.
    for stretch in stretches:
        left = _left_to(woods, room, stretch)
        if wood is None:
            found = left > 0 and room not in stretch.part
        else:
            found = left == wood and wood > 1
        if found:
            return (stretch.one, stretch.other)
    return None
