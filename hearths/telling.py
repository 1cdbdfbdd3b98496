"""Whether the hours of some watched rooms tell the first room of every fire."""

from hearths.slacks import alike_fires, need_watchers, slacks_beyond

MOST_SLACK = 1


def doors_in_doubt(house, woods, watchers):
    """The list of the doors both slacks of which, each seen from the other room, are together too much."""
    beyond = slacks_beyond(house, woods, watchers)
    doors = []
    for one, other in house.doors():
        slacks = (beyond[(one, other)], beyond[(other, one)])
        if None in slacks or sum(slacks) > MOST_SLACK:
            doors.append((one, other))
    return doors


def tell_first(house, woods, watchers):
    need_watchers(house, woods, watchers)
    return len(doors_in_doubt(house, woods, watchers)) == 0


def doubtful_fires(house, woods, watchers):
    need_watchers(house, woods, watchers)
    doors = doors_in_doubt(house, woods, watchers)
    if not doors:
        return None
    one, other = doors[0]
    return alike_fires(house, woods, watchers, one, other)


def doubtful_doors(house, woods, watchers):
    need_watchers(house, woods, watchers)
    return doors_in_doubt(house, woods, watchers)


def can_be_spared(house, woods, watchers):
    need_watchers(house, woods, watchers)
    spared = []
    for room in sorted(watchers):
        if not doors_in_doubt(house, woods, [other for other in watchers if other != room]):
            spared.append(room)
    return spared
