"""Lists of claims: that hearths were lit within some hours.

VIEWS are the ways to look at things, as the first rooms of a house: by a view some things go together just
if each two of them do. So the shortest lists of things that never go together are found by pairs.
"""

from hearths.errors import BadClaims
from hearths.hourspans import firsts_within
from hearths.houses import is_room
from hearths.plain import is_row, is_span
from hearths.twohours import seen_from
from hearths.woods import need_woods


def is_claim(house, thing):
    return is_row(thing) and len(thing) == 3 and is_room(house, thing[0]) and is_span(thing[1:])


def need_claims(house, woods, claims):
    """Raises BadWoods, then BadClaims, for what is none."""
    need_woods(house, woods)
    if not is_row(claims):
        raise BadClaims(0)
    for at, claim in enumerate(claims):
        if not is_claim(house, claim):
            raise BadClaims(at)


def can_all_be(house, woods, claims):
    need_claims(house, woods, claims)
    spans = {}
    for room, least, most in claims:
        ahead = spans.get(room, (least, most))
        spans[room] = (max(least, ahead[0]), min(most, ahead[1]))
        if spans[room][0] > spans[room][1]:
            return False
    return len(firsts_within(house, woods, spans)) > 0


def bits_of_pairs(views):
    """The dict from all pairs of indexes of claims to the views by which both go together.

    Views are pairs of a house as it is seen and the list of the claims (room, least, most) there. They are
    told as bits of an integer, one for each view, so that many pairs are gone through soon.
    """
    many = len(views[0][1])
    bits = {(one, other): 0 for other in range(many) for one in range(other + 1)}
    bit = 1
    for seen, claims in views:
        for one, other in list(bits):
            if _go_together(seen, claims[one], claims[other]):
                bits[(one, other)] += bit
        bit += bit
    return bits


def _go_together(seen, one, other):
    least, most = seen.hours_apart(one[0], other[0])
    return other[1] - one[2] <= most and other[2] - one[1] >= least


def first_clash(many, bits):
    """The first of the shortest ascending lists of indexes below many that no view has all together, or None."""
    left = -1
    for pair in bits:
        left = left & bits[pair]
    together = [([], -1)] if left == 0 else []
    while together:
        longer = []
        for indexes, views in together:
            for at in range(indexes[-1] + 1 if indexes else 0, many):
                still = views
                for index in indexes + [at]:
                    still = still & bits[(index, at)]
                if still == 0:
                    return indexes + [at]
                longer.append((indexes + [at], still))
        together = longer
    return None


def clash_of_claims(house, woods, claims):
    """The first of the shortest ascending lists of indexes of right claims that no fire has together."""
    views = [(seen_from(house, woods, first), claims) for first in house.rooms()]
    return first_clash(len(claims), bits_of_pairs(views))


def claim_clash(house, woods, claims):
    need_claims(house, woods, claims)
    return clash_of_claims(house, woods, claims)
