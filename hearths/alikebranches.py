"""Branches against one another: joined, in one another's place, and built as told."""

from hearths.branches import Branch, comes_in, goes_out, need_branch
from hearths.errors import BadTold
from hearths.houses import House
from hearths.otherhouses import need_no_common_room
from hearths.plain import is_integer, is_row


def _in_common(stretches, span):
    """The stretches of the integers of some stretches that a span has; (None, None) is all integers."""
    if span is None:
        return []
    if span[0] is None:
        return list(stretches)
    if stretches and stretches[0][0] is None:
        return [span]
    cut = [(max(least, span[0]), min(most, span[1])) for least, most in stretches]
    return [(least, most) for least, most in cut if least <= most]


def meeting_hours(one, other):
    need_branch(one)
    need_branch(other)
    need_no_common_room(one.house(), other.house())
    return (_in_common(goes_out(one), comes_in(other)), _in_common(goes_out(other), comes_in(one)))


def have_fire(one, other):
    there, back = meeting_hours(one, other)
    return len(there) > 0 or len(back) > 0


def _has(stretches, hour):
    return any([least is None or least <= hour <= most for least, most in stretches])


def _stretches_in(branch):
    """What comes_in tells, as a list of stretches."""
    span = comes_in(branch)
    return [] if span is None else [span]


def _hour_of_one(one, other):
    """An hour that just one of two lists of stretches has, None if there is none."""
    hours = [0]
    for least, most in one + other:
        if least is not None:
            hours.extend([least, most + 1])
    parting = [hour for hour in hours if _has(one, hour) != _has(other, hour)]
    return parting[0] if parting else None


def parting_hours(one, other):
    """An hour of coming in is asked by two rooms around that bring it, one of going out by two that take it."""
    hour = _hour_of_one(_stretches_in(one), _stretches_in(other))
    if hour is not None:
        return (hour - 1, hour - 2)
    hour = _hour_of_one(goes_out(one), goes_out(other))
    return None if hour is None else (hour, hour + 1)


def _has_fire_around(branch, near, far):
    """Whether some fire has what is noted and the hours of two rooms around, both with wood for 1 hour."""
    if far == near - 1:
        return _has(_stretches_in(branch), near + 1)
    if far == near + 1:
        return _has(_stretches_in(branch), near + 1) or _has(goes_out(branch), near)
    return False


def is_parting(one, other, thing):
    need_branch(one)
    need_branch(other)
    if not is_row(thing) or len(thing) != 2 or not all([is_integer(hour) for hour in thing]):
        return False
    near, far = thing
    return _has_fire_around(one, near, far) != _has_fire_around(other, near, far)


def told_branch(least, most, last):
    """What lets the rim be lit from least to most only stands behind it twice.

    Fire that begins behind the rim begins in one of the two, so that the other one still tells this: then
    the rim is lit at these hours by all fires, and the room around up to its wood behind them.
    """
    told = (least, most, last)
    if not all([is_integer(hour) for hour in told]) or not least <= most < last:
        raise BadTold(told)
    wood = last - most
    if wood > most - least:
        rooms, doors = ["r", "s", "t", "u", "v"], [("r", "s"), ("r", "t"), ("r", "u"), ("r", "v")]
        woods = {"r": wood, "s": 1, "t": 1, "u": 1, "v": 1}
        book = {"s": most + 1, "t": most + 1, "u": least + wood, "v": least + wood}
    else:
        rooms, doors = ["r", "s", "t", "u", "v"], [("r", "s"), ("s", "t"), ("r", "u"), ("u", "v")]
        between = most - least + 2 - wood
        woods = {"r": wood, "s": between, "t": 1, "u": between, "v": 1}
        book = {"t": most + 2, "v": most + 2}
    return Branch(House(rooms, doors), "r", woods, book)


def closed_branch(least, most):
    """The rim was lit by a room behind it, an hour ahead of it."""
    told = (least, most)
    if not all([is_integer(hour) for hour in told]) or not least <= most:
        raise BadTold(told)
    woods = {"r": most - least + 1, "s": 1}
    return Branch(House(["r", "s"], [("r", "s")]), "r", woods, {"r": least - 1, "s": least - 2})
