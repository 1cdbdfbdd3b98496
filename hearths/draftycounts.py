"""How many fires with drafts fit a book, and these in order: as the lists of their hours compare."""

from hearths.books import need_book
from hearths.drafts import closed_hours, need_drafts
from hearths.draftyfires import stretches_with_drafts
from hearths.errors import BadBook
from hearths.firenumbers import need_number
from hearths.fittings import counts_of_room


def _counts_by_hour(house, woods, drafts, book, room):
    """The dict from the hours of a room to how many fires with drafts that fit a book, not empty, have them."""
    alone = {}
    for here in house.rooms():
        stretches = stretches_with_drafts(house, woods, drafts, book, here)
        alone[here] = {hour: 1 for least, most in stretches for hour in range(least, most + 1)}
    return counts_of_room(house, woods, alone, closed_hours(drafts), room)


def _how_many(house, woods, drafts, book):
    return sum(list(_counts_by_hour(house, woods, drafts, book, list(book)[0]).values()))


def drafty_count(house, woods, drafts, book):
    need_drafts(house, woods, drafts)
    need_book(house, book)
    return None if len(book) == 0 else _how_many(house, woods, drafts, book)


def drafty_at(house, woods, drafts, book, number):
    need_drafts(house, woods, drafts)
    need_book(house, book)
    if len(book) == 0:
        raise BadBook(book)
    need_number(number, _how_many(house, woods, drafts, book))
    fire = dict(book)
    for room in house.rooms():
        counts = _counts_by_hour(house, woods, drafts, fire, room)
        for hour in sorted(list(counts)):
            if number < counts[hour]:
                fire[room] = hour
                break
            number -= counts[hour]
    return {room: fire[room] for room in house.rooms()}
