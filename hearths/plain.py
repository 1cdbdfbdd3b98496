"""What all files need of plain things: what is a name, an integer, a row, and rows of stretches."""

from math import gcd

LETTERS = "abcdefghijklmnopqrstuvwxyz"
NAME_SIGNS = "abcdefghijklmnopqrstuvwxyz0123456789"
LONGEST_NAME = 12


def is_integer(thing):
    return isinstance(thing, int) and not isinstance(thing, bool)


def is_number(thing):
    return is_integer(thing) and thing >= 0


def is_from_one(thing):
    return is_integer(thing) and thing >= 1


def is_name(thing):
    if not isinstance(thing, str) or len(thing) < 1 or len(thing) > LONGEST_NAME:
        return False
    return thing[0] in LETTERS and all([sign in NAME_SIGNS for sign in thing])


def is_row(thing):
    """Whether a thing can stand for a list or a tuple: both may be passed for either."""
    return isinstance(thing, (list, tuple))


def is_span(thing):
    """Whether a thing is a pair (least, most) of integers, most from least on."""
    if not is_row(thing) or len(thing) != 2:
        return False
    return is_integer(thing[0]) and is_integer(thing[1]) and thing[0] <= thing[1]


def bad_index(things, is_right):
    """The index of the first string in a list that is not right, or stood before, None if there is none.

    It is 0 for no list. What is right is a string, so that it can be a key.
    """
    if not is_row(things):
        return 0
    seen = {}
    for at, thing in enumerate(things):
        if not is_right(thing) or thing in seen:
            return at
        seen[thing] = True
    return None


def ascending(table):
    """The same dict, new, its keys ascending."""
    return {key: table[key] for key in sorted(list(table))}


def joined_stretches(stretches):
    """The integers of some stretches as ascending stretches, each as long as can be."""
    joined = []
    for least, most in sorted(stretches):
        if joined and least <= joined[-1][1] + 1:
            joined[-1] = (joined[-1][0], max(joined[-1][1], most))
        else:
            joined.append((least, most))
    return joined


def lowest_terms(over, under):
    """The pair of a fraction, under above 0, in lowest terms."""
    common = gcd(over, under)
    return (over // common, under // common)
