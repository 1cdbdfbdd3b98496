"""The shortest lists of things that do not go together, where pairs tell all once it is told how one looks.

VIEWS are the ways to look, as the first rooms of a house; for each pair of things, also of one twice, it is
known by which views they go together, and more of them go together by a view just if each two of them do.
"""


def bits_of_pairs(views):
    """The dict from all pairs of indexes of claims to the views by which both go together.

    Views are pairs of a house as it is seen and the list of the claims (room, least, most) there. They are
    told as bits of an integer, one for each view, so that many pairs are gone through soon.
    """
    many = len(views[0][1])
    bits = {(one, other): 0 for other in range(many) for one in range(other + 1)}
    bit = 1
    for seen, claims in views:
        for one, other in list(bits):
            if _go_together(seen, claims[one], claims[other]):
                bits[(one, other)] += bit
        bit += bit
    return bits


def _go_together(seen, one, other):
    least, most = seen.hours_apart(one[0], other[0])
    return other[1] - one[2] <= most and other[2] - one[1] >= least


def first_clash(many, bits):
    """The first of the shortest ascending lists of indexes below many that no view has all together, or None."""
    left = -1
    for pair in bits:
        left = left & bits[pair]
    together = [([], -1)] if left == 0 else []
    while together:
        longer = []
        for indexes, views in together:
            for at in range(indexes[-1] + 1 if indexes else 0, many):
                still = views
                for index in indexes + [at]:
                    still = still & bits[(index, at)]
                if still == 0:
                    return indexes + [at]
                longer.append((indexes + [at], still))
        together = longer
    return None
