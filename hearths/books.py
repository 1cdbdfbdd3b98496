"""Books: the hours at which some rooms were lit."""

from hearths.errors import BadBook
from hearths.fires import need_fire
from hearths.houses import is_room, need_some
from hearths.plain import is_integer
from hearths.woods import need_woods


def is_book(house, thing):
    if not isinstance(thing, dict):
        return False
    return all([is_room(house, room) and is_integer(hour) for room, hour in thing.items()])


def need_book(house, book):
    if not is_book(house, book):
        raise BadBook(book)


def need_woods_and_book(house, woods, book):
    need_woods(house, woods)
    need_book(house, book)


def wrong_rooms(book, fire):
    """The ascending list of the rooms of a book that have another hour in a fire."""
    return [room for room in sorted(list(book)) if book[room] != fire[room]]


def fits(house, woods, book, fire):
    need_woods_and_book(house, woods, book)
    need_fire(house, woods, fire)
    return len(wrong_rooms(book, fire)) == 0


def part_book(house, book, some):
    need_book(house, book)
    need_some(house, some)
    return {room: book[room] for room in sorted(some) if room in book}
