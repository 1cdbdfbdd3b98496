"""Hours that are not known for sure: spans of hours, and fires that keep to them.

AHEAD is the dict from all rooms to the one ahead, each behind it; STEPS are a dict from all rooms but the
first to the pair of the least and the most hours that they can be lit behind the one ahead, perhaps below 0.
"""

from hearths.errors import BadSpans
from hearths.fires import need_fire
from hearths.houses import is_room
from hearths.plain import ascending, bad_index, is_span
from hearths.ways import ahead_from
from hearths.woods import fire_steps, need_woods

MOST_IN_PAPER = 4


def is_spans(house, thing):
    if not isinstance(thing, dict):
        return False
    return all([is_room(house, room) and is_span(span) for room, span in thing.items()])


def need_spans(house, woods, spans):
    """Raises BadWoods, then BadSpans, for what is none."""
    need_woods(house, woods)
    if not is_spans(house, spans):
        raise BadSpans(spans)


def ends_beyond(ahead, steps, spans):
    """Between which hours each room must be lit for the spans of itself and of what lies behind it.

    A pair of dicts from the rooms of which anything is told so, to the least and to the greatest hour,
    each in a pair with the room whose span tells it.
    """
    low = {room: (span[0], room) for room, span in spans.items()}
    high = {room: (span[1], room) for room, span in spans.items()}
    for room in reversed(list(ahead)):
        before = ahead[room]
        if before is not None and room in low:
            least = (low[room][0] - steps[room][1], low[room][1])
            most = (high[room][0] - steps[room][0], high[room][1])
            low[before] = max(least, low.get(before, least))
            high[before] = min(most, high.get(before, most))
    return low, high


def pair_off_steps(ahead, steps, spans):
    """Two rooms whose spans no such hours keep, None if some keep to all."""
    low, high = ends_beyond(ahead, steps, spans)
    for room in reversed(list(ahead)):
        if room in low and low[room][0] > high[room][0]:
            return sorted([low[room][1], high[room][1]])
    return None


def early_by_steps(ahead, steps, spans):
    """The hours that keep to spans, each as early as can be.

    There must be some. Without spans the first room's hour is 0.
    """
    low, _ = ends_beyond(ahead, steps, spans)
    hours = {}
    for room, before in ahead.items():
        soonest = 0 if before is None else hours[before] + steps[room][0]
        if room not in low:
            hours[room] = soonest
        elif before is None:
            hours[room] = low[room][0]
        else:
            hours[room] = max(soonest, low[room][0])
    return ascending(hours)


def late_by_steps(ahead, steps, spans):
    """As early_by_steps, but each hour as late as can be."""
    _, high = ends_beyond(ahead, steps, spans)
    hours = {}
    for room, before in ahead.items():
        latest = 0 if before is None else hours[before] + steps[room][1]
        if room not in high:
            hours[room] = latest
        elif before is None:
            hours[room] = high[room][0]
        else:
            hours[room] = min(latest, high[room][0])
    return ascending(hours)


def pair_against(ahead, woods, spans):
    """Two rooms whose spans no fire with this first room keeps, None if some fire keeps to all."""
    return pair_off_steps(ahead, fire_steps(ahead, woods), spans)


def early_fire_in(ahead, woods, spans):
    """The fire with this first room that keeps to spans, each hour as early as can be.

    There must be one. Without spans the first hour is 0.
    """
    return early_by_steps(ahead, fire_steps(ahead, woods), spans)


def late_fire_in(ahead, woods, spans):
    """As early_fire_in, but each hour as late as can be."""
    return late_by_steps(ahead, fire_steps(ahead, woods), spans)


def firsts_within(house, woods, spans):
    """The ascending list of the first rooms of fires that keep to right spans."""
    return [first for first in house.rooms() if pair_against(ahead_from(house, first), woods, spans) is None]


def fire_in_spans(house, woods, spans):
    """A fire that keeps to right spans, None if there is none."""
    for first in house.rooms():
        ahead = ahead_from(house, first)
        if pair_against(ahead, woods, spans) is None:
            return early_fire_in(ahead, woods, spans)
    return None


def paper_in_spans(house, woods, spans):
    """At most four rooms whose spans no fire keeps, None if some fire keeps to all spans.

    Each first room is barred by a pair of rooms, the other first rooms that this pair leaves hang
    together. Going on to the nearest one of these one never turns back, so at last two pairs have none
    in common.
    """
    first, paper, left = house.rooms()[0], [], house.rooms()
    while True:
        ahead = ahead_from(house, first)
        pair = pair_against(ahead, woods, spans)
        if pair is None:
            break
        firsts = firsts_within(house, woods, {room: spans[room] for room in pair})
        if not any([room in left for room in firsts]):
            return sorted(set(paper + pair))
        first = [room for room in ahead if room in firsts][0]
        paper, left = pair, firsts
    return None


def is_paper_in_spans(house, woods, spans, thing):
    wrong = bad_index(thing, lambda room: isinstance(room, str) and room in spans)
    if wrong is not None or not 1 <= len(thing) <= MOST_IN_PAPER:
        return False
    return fire_in_spans(house, woods, {room: spans[room] for room in thing}) is None


def keeps_to(house, woods, spans, fire):
    need_spans(house, woods, spans)
    need_fire(house, woods, fire)
    return all([least <= fire[room] <= most for room, (least, most) in spans.items()])


def fire_within(house, woods, spans):
    need_spans(house, woods, spans)
    return fire_in_spans(house, woods, spans)


def span_paper(house, woods, spans):
    need_spans(house, woods, spans)
    return paper_in_spans(house, woods, spans)


def is_span_paper(house, woods, spans, thing):
    need_spans(house, woods, spans)
    return is_paper_in_spans(house, woods, spans, thing)


def rooms_within(house, woods, spans):
    need_spans(house, woods, spans)
    return firsts_within(house, woods, spans)
