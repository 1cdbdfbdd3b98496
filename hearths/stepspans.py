"""Hours that go from room to room by steps within limits, and keep to spans.

AHEAD is the dict from all rooms to the one ahead, each behind it; STEPS are a dict from all rooms but the
first to the pair of the least and the most hours that they can be lit behind the one ahead, perhaps below 0.
"""

from hearths.plain import ascending


def fire_steps(ahead, woods):
    """The steps of fires."""
    return {room: (1, woods[before]) for room, before in ahead.items() if before is not None}


def ends_beyond(ahead, steps, spans):
    """Between which hours each room must be lit for the spans of itself and of what lies behind it.

    A pair of dicts from the rooms of which anything is told so, to the least and to the greatest hour,
    each in a pair with the room whose span tells it.
    """
    low = {room: (span[0], room) for room, span in spans.items()}
    high = {room: (span[1], room) for room, span in spans.items()}
    for room in reversed(list(ahead)):
        before = ahead[room]
        if before is not None and room in low:
            least = (low[room][0] - steps[room][1], low[room][1])
            most = (high[room][0] - steps[room][0], high[room][1])
            low[before] = max(least, low.get(before, least))
            high[before] = min(most, high.get(before, most))
    return low, high


def pair_off_steps(ahead, steps, spans):
    """Two rooms whose spans no such hours keep, None if some keep to all."""
    low, high = ends_beyond(ahead, steps, spans)
    for room in reversed(list(ahead)):
        if room in low and low[room][0] > high[room][0]:
            return sorted([low[room][1], high[room][1]])
    return None


def early_by_steps(ahead, steps, spans):
    """The hours that keep to spans, each as early as can be.

    There must be some. Without spans the first room's hour is 0.
    """
    low, _ = ends_beyond(ahead, steps, spans)
    hours = {}
    for room, before in ahead.items():
        soonest = 0 if before is None else hours[before] + steps[room][0]
        if room not in low:
            hours[room] = soonest
        elif before is None:
            hours[room] = low[room][0]
        else:
            hours[room] = max(soonest, low[room][0])
    return ascending(hours)


def late_by_steps(ahead, steps, spans):
    """As early_by_steps, but each hour as late as can be."""
    _, high = ends_beyond(ahead, steps, spans)
    hours = {}
    for room, before in ahead.items():
        latest = 0 if before is None else hours[before] + steps[room][1]
        if room not in high:
            hours[room] = latest
        elif before is None:
            hours[room] = high[room][0]
        else:
            hours[room] = min(latest, high[room][0])
    return ascending(hours)


class Seen:
    """A house as it is seen from a first room: by how many hours rooms can be lit behind it, along the ways."""

    def __init__(self, ahead, steps):
        self.ahead = ahead
        self.least_to = {}
        self.most_to = {}
        for room, before in ahead.items():
            if before is None:
                self.least_to[room] = 0
                self.most_to[room] = 0
            else:
                self.least_to[room] = self.least_to[before] + steps[room][0]
                self.most_to[room] = self.most_to[before] + steps[room][1]

    def hours_apart(self, one, other):
        """The pair of the least and most hours by which other is lit behind one."""
        part = _parting(self.ahead, one, other)
        least = self.least_to[other] - self.least_to[part] - self.most_to[one] + self.most_to[part]
        most = self.most_to[other] - self.most_to[part] - self.least_to[one] + self.least_to[part]
        return (least, most)


def _parting(ahead, one, other):
    """The room where the ways from the first room to both part."""
    back = {}
    room = one
    while room is not None:
        back[room] = True
        room = ahead[room]
    room = other
    while room not in back:
        room = ahead[room]
    return room
