"""Rows of steps: triples (one, other, hours) that tell: other is lit so many hours behind one at the most.

Where no ring of steps has fewer hours than 0, rooms can be lit so, and of two rooms the one is lit behind
the other by as many hours as the row between them with the fewest hours together tells.
"""


def rows_from(many, steps, one):
    """The pair (hours, came) for all of so many rooms, to which rows of steps must lead from one.

    Hours are the dict to the fewest hours of such rows, came that to the last step of one that has them,
    but of room one itself. If there is a ring with fewer hours than 0, came has such a ring.
    """
    hours = {one: 0}
    came = {}
    for _ in range(many):
        changed = False
        for step in steps:
            near, far, most = step
            if near in hours and (far not in hours or hours[near] + most < hours[far]):
                hours[far] = hours[near] + most
                came[far] = step
                changed = True
        if not changed:
            break
    return hours, came


def turned(steps):
    """The steps from the other side, so that rows lead to a room instead of from it."""
    return [(other, one, hours) for one, other, hours in steps]


def ring_in(came):
    """The ring of steps that came has, None if there is none."""
    done = {}
    for room in came:
        back = {}
        here = room
        while here in came and here not in done and here not in back:
            back[here] = True
            here = came[here][0]
        if here in back:
            return row_to(came, here, here)
        done.update(back)
    return None


def row_to(came, one, other):
    """The row of steps by which one came from one to other: a ring if these are the same."""
    row = [came[other]]
    while row[-1][0] != one:
        row.append(came[row[-1][0]])
    return row[::-1]
