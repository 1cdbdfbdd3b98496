"""Doors that are open from an hour to another one only, and doors that are walled."""

from hearths.books import need_book
from hearths.claimlists import bits_of_pairs, first_clash
from hearths.drafts import is_told_door
from hearths.errors import BadFire, BadOpens
from hearths.fires import earliest_room, is_fire
from hearths.hourspans import early_fire_in, pair_against
from hearths.otherhouses import part_of
from hearths.plain import is_span
from hearths.twohours import Seen
from hearths.ways import ahead_from, behind
from hearths.woods import fire_steps, need_woods


def is_opens(house, thing):
    if not isinstance(thing, dict):
        return False
    return all([is_told_door(house, door) and is_span(span) for door, span in thing.items()])


def _need_all(house, woods, opens, book):
    need_woods(house, woods)
    if not is_opens(house, opens):
        raise BadOpens(opens)
    need_book(house, book)


def _tellings(opens, book):
    return sorted([("door", one, other) for one, other in opens] + [("room", room) for room in book])


def _claims_of(ahead, opens, book, tellings):
    """The claims (room, least, most) that tellings make, as one comes from the first room of ahead."""
    claims = []
    for telling in tellings:
        if telling[0] == "room":
            claims.append((telling[1], book[telling[1]], book[telling[1]]))
        else:
            _, one, other = telling
            least, most = opens[(one, other)]
            claims.append((other if ahead[other] == one else one, least, most))
    return claims


def _fire_of_claims(ahead, woods, claims):
    """The earliest fire with the first room of ahead that has all claims, None if there is none."""
    spans = {}
    for room, least, most in claims:
        known = spans.get(room, (least, most))
        spans[room] = (max(least, known[0]), min(most, known[1]))
    if pair_against(ahead, woods, spans) is not None:
        return None
    return early_fire_in(ahead, woods, spans)


def _fire_through(house, woods, opens, book):
    tellings = _tellings(opens, book)
    for first in house.rooms():
        ahead = ahead_from(house, first)
        fire = _fire_of_claims(ahead, woods, _claims_of(ahead, opens, book, tellings))
        if fire is not None:
            return fire
    return None


def open_fire(house, woods, opens, book):
    _need_all(house, woods, opens, book)
    return _fire_through(house, woods, opens, book)


def open_paper(house, woods, opens, book):
    _need_all(house, woods, opens, book)
    if _fire_through(house, woods, opens, book) is not None:
        return None
    tellings = _tellings(opens, book)
    views = []
    for first in house.rooms():
        ahead = ahead_from(house, first)
        views.append((Seen(ahead, fire_steps(ahead, woods)), _claims_of(ahead, opens, book, tellings)))
    return [tellings[at] for at in first_clash(len(tellings), bits_of_pairs(views))]


def walled(house, one, other):
    there = behind(house, one, other)
    return (part_of(house, behind(house, other, one)), part_of(house, there))


def why_two(house, woods, one, other, fire, far):
    need_woods(house, woods)
    near_house, far_house = walled(house, one, other)
    for part, thing in ((near_house, fire), (far_house, far)):
        if not is_fire(part, {room: woods[room] for room in part.rooms()}, thing):
            raise BadFire(thing)
    both = dict(fire)
    both.update(far)
    if is_fire(house, woods, both):
        return None
    if earliest_room(near_house, fire) != one and earliest_room(far_house, far) != other:
        return "first"
    return "hours"
