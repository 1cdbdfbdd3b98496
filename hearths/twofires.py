"""Two fires, made in told rooms, that meet at a door between them.

If this door is walled each is a fire on its own side, so that by each door the hours go by steps from the
one room on: behind the door, on the way to the other room, fire comes towards the door.
"""

from hearths.books import need_woods_and_book
from hearths.builtfires import spans_of
from hearths.claimlists import bits_of_pairs, first_clash
from hearths.errors import SameRoom
from hearths.hourspans import early_by_steps, pair_off_steps
from hearths.houses import need_room
from hearths.twohours import Seen
from hearths.ways import ahead_from, way_back
from hearths.woods import fire_steps


def _need_all(house, woods, book, one, other):
    need_woods_and_book(house, woods, book)
    need_room(house, one)
    need_room(house, other)
    if one == other:
        raise SameRoom(other)


def _steps_by_door(ahead, woods, rooms, at):
    """The steps of two fires made at both ends of a way that meet at its door behind the room with an index."""
    steps = fire_steps(ahead, woods)
    near, far = rooms[at], rooms[at + 1]
    # A made room must not be lit through the door ahead of its own hour.
    least = 0 if at == 0 else -woods[far]
    most = 0 if at + 2 == len(rooms) else woods[near]
    steps[far] = (least, most)
    for room in rooms[at + 2:]:
        steps[room] = (-woods[room], -1)
    return steps


def _views(house, woods, one, other):
    """The pair of the house as one comes from one, and the list of the pairs of all doors and the steps by them."""
    ahead = ahead_from(house, one)
    rooms = way_back(ahead, other)[::-1]
    views = []
    for at in range(len(rooms) - 1):
        views.append(((rooms[at], rooms[at + 1]), _steps_by_door(ahead, woods, rooms, at)))
    return ahead, views


def _doors_that_do(ahead, views, book):
    """The list of the pairs of doors and steps by which two fires can have the hours of a book."""
    return [(door, steps) for door, steps in views if pair_off_steps(ahead, steps, spans_of(book)) is None]


def meeting_doors(house, woods, book, one, other):
    _need_all(house, woods, book, one, other)
    ahead, views = _views(house, woods, one, other)
    return [door for door, _ in _doors_that_do(ahead, views, book)]


def two_fires(house, woods, book, one, other):
    _need_all(house, woods, book, one, other)
    ahead, views = _views(house, woods, one, other)
    doing = _doors_that_do(ahead, views, book)
    return early_by_steps(ahead, doing[0][1], spans_of(book)) if doing else None


def two_paper(house, woods, book, one, other):
    _need_all(house, woods, book, one, other)
    ahead, views = _views(house, woods, one, other)
    if _doors_that_do(ahead, views, book):
        return None
    noted = sorted(list(book))
    claims = [(room, book[room], book[room]) for room in noted]
    bits = bits_of_pairs([(Seen(ahead, steps), claims) for _, steps in views])
    return [noted[at] for at in first_clash(len(noted), bits)]
