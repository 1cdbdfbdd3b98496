"""Lists of claims: that hearths were lit within some hours."""

from hearths.errors import BadClaims
from hearths.hourspans import firsts_within
from hearths.houses import is_room
from hearths.plain import is_row, is_span
from hearths.twohours import Seen
from hearths.woods import need_woods

MOST_IN_CLASH = 4


def is_claim(house, thing):
    return is_row(thing) and len(thing) == 3 and is_room(house, thing[0]) and is_span(thing[1:])


def need_claims(house, woods, claims):
    """Raises BadWoods, then BadClaims, for what is none."""
    need_woods(house, woods)
    if not is_row(claims):
        raise BadClaims(0)
    for at, claim in enumerate(claims):
        if not is_claim(house, claim):
            raise BadClaims(at)


def can_all_be(house, woods, claims):
    need_claims(house, woods, claims)
    spans = {}
    for room, least, most in claims:
        ahead = spans.get(room, (least, most))
        spans[room] = (max(least, ahead[0]), min(most, ahead[1]))
        if spans[room][0] > spans[room][1]:
            return False
    return len(firsts_within(house, woods, spans)) > 0


def claim_clash(house, woods, claims):
    need_claims(house, woods, claims)
    firsts = _firsts_of_pairs(house, woods, claims)
    together = [([at], firsts[(at, at)]) for at in range(len(claims))]
    for _ in range(MOST_IN_CLASH - 1):
        longer = []
        for indexes, left in together:
            for at in range(indexes[-1] + 1, len(claims)):
                still = left
                for index in indexes:
                    still = still & firsts[(index, at)]
                if still == 0:
                    return indexes + [at]
                longer.append((indexes + [at], still))
        together = longer
    return None


def _firsts_of_pairs(house, woods, claims):
    """The dict from all pairs of indexes, also of one twice, to the first rooms of fires that have both claims.

    With the first room told pairs are enough, so the first rooms for more claims are what these have in
    common. They are bits of an integer, one for each room, so that many pairs are gone through soon.
    """
    firsts = {(one, other): 0 for other in range(len(claims)) for one in range(other + 1)}
    bit = 1
    for first in house.rooms():
        seen = Seen(house, woods, first)
        for one, other in list(firsts):
            if _go_together(seen, claims[one], claims[other]):
                firsts[(one, other)] += bit
        bit += bit
    return firsts


def _go_together(seen, one, other):
    """Whether some fire with the first room of seen has both claims."""
    least, most = seen.hours_apart(one[0], other[0])
    return other[1] - one[2] <= most and other[2] - one[1] >= least
