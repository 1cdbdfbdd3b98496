"""Lists of claims: that hearths were lit within some hours."""

from hearths.clashes import bits_of_pairs, first_clash
from hearths.errors import BadClaims
from hearths.hourspans import firsts_within
from hearths.houses import is_room
from hearths.plain import is_row, is_span
from hearths.twohours import seen_from
from hearths.woods import need_woods


def is_claim(house, thing):
    return is_row(thing) and len(thing) == 3 and is_room(house, thing[0]) and is_span(thing[1:])


def need_claims(house, woods, claims):
    """Raises BadWoods, then BadClaims, for what is none."""
    need_woods(house, woods)
    if not is_row(claims):
        raise BadClaims(0)
    for at, claim in enumerate(claims):
        if not is_claim(house, claim):
            raise BadClaims(at)


def can_all_be(house, woods, claims):
    need_claims(house, woods, claims)
    spans = {}
    for room, least, most in claims:
        ahead = spans.get(room, (least, most))
        spans[room] = (max(least, ahead[0]), min(most, ahead[1]))
        if spans[room][0] > spans[room][1]:
            return False
    return len(firsts_within(house, woods, spans)) > 0


def clash_of_claims(house, woods, claims):
    """The first of the shortest ascending lists of indexes of right claims that no fire has together."""
    views = [(seen_from(house, woods, first), claims) for first in house.rooms()]
    return first_clash(len(claims), bits_of_pairs(views))


def claim_clash(house, woods, claims):
    need_claims(house, woods, claims)
    return clash_of_claims(house, woods, claims)
