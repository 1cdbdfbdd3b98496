"""What is said of two rooms: by how many hours one is lit behind the other.

Steps are triples (one, other, hours) that tell: other is lit so many hours behind one at the most. Where no
ring of them has fewer hours than 0, rooms can be lit so, and of two rooms the one is lit behind the other by
as many hours at the most as the row of steps between them with the fewest hours together tells.
"""

from hearths.errors import BadSayings
from hearths.fires import need_fire
from hearths.houses import is_room, need_room
from hearths.plain import is_integer, is_row
from hearths.ways import ahead_from
from hearths.woods import need_woods


def is_saying(house, thing):
    if not is_row(thing) or len(thing) != 4:
        return False
    one, other, least, most = thing
    if not is_room(house, one) or not is_room(house, other) or one == other:
        return False
    if not all([hours is None or is_integer(hours) for hours in (least, most)]):
        return False
    return least is None or most is None or least <= most


def need_sayings(house, sayings):
    if not is_row(sayings):
        raise BadSayings(0)
    for at, saying in enumerate(sayings):
        if not is_saying(house, saying):
            raise BadSayings(at)


def need_first_and_sayings(house, woods, first, sayings):
    """Raises BadWoods, then NoRoom of the first room, then BadSayings."""
    need_woods(house, woods)
    need_room(house, first)
    need_sayings(house, sayings)


def is_kept(saying, least, most):
    """Whether a saying holds of all hours from least to most by which its other room is lit behind its one."""
    return (saying[2] is None or saying[2] <= least) and (saying[3] is None or most <= saying[3])


def steps_of_doors(ahead, woods):
    steps = []
    for room, before in ahead.items():
        if before is not None:
            steps.append((before, room, woods[before]))
            steps.append((room, before, -1))
    return steps


def steps_of_sayings(sayings):
    steps = []
    for one, other, least, most in sayings:
        if most is not None:
            steps.append((one, other, most))
        if least is not None:
            steps.append((other, one, -least))
    return steps


def steps_by(house, woods, first, sayings):
    """All steps for a first room and right sayings."""
    return steps_of_doors(ahead_from(house, first), woods) + steps_of_sayings(sayings)


def rows_from(many, steps, one):
    """The pair (hours, came) for all of so many rooms, to which rows of steps must lead from one.

    Hours are the dict to the fewest hours of such rows, came that to the last step of one that has them,
    but of room one itself. If there is a ring with fewer hours than 0, came has such a ring.
    """
    hours = {one: 0}
    came = {}
    for _ in range(many):
        changed = False
        for step in steps:
            near, far, most = step
            if near in hours and (far not in hours or hours[near] + most < hours[far]):
                hours[far] = hours[near] + most
                came[far] = step
                changed = True
        if not changed:
            break
    return hours, came


def turned(steps):
    """The steps from the other side, so that rows lead to a room instead of from it."""
    return [(other, one, hours) for one, other, hours in steps]


def ring_in(came):
    """The ring of steps that came has, None if there is none."""
    done = {}
    for room in came:
        back = {}
        here = room
        while here in came and here not in done and here not in back:
            back[here] = True
            here = came[here][0]
        if here in back:
            return row_to(came, here, here)
        done.update(back)
    return None


def row_to(came, one, other):
    """The row of steps by which one came from one to other: a ring if these are the same."""
    row = [came[other]]
    while row[-1][0] != one:
        row.append(came[row[-1][0]])
    return row[::-1]


def ring_of_steps(house, steps):
    """A ring of steps, those of all doors among them, None if there is none."""
    return ring_in(rows_from(len(house), steps, house.rooms()[0])[1])


def broken_ones(house, woods, sayings, fire):
    need_woods(house, woods)
    need_sayings(house, sayings)
    need_fire(house, woods, fire)
    behind = [fire[saying[1]] - fire[saying[0]] for saying in sayings]
    return [at for at, hours in enumerate(behind) if not is_kept(sayings[at], hours, hours)]


def early_fire(house, woods, first, sayings):
    """A room is lit as early as the rows from it to the first room tell."""
    need_first_and_sayings(house, woods, first, sayings)
    hours, came = rows_from(len(house), turned(steps_by(house, woods, first, sayings)), first)
    return {room: -hours[room] for room in house.rooms()} if ring_in(came) is None else None


def late_fire(house, woods, first, sayings):
    need_first_and_sayings(house, woods, first, sayings)
    hours, came = rows_from(len(house), steps_by(house, woods, first, sayings), first)
    return {room: hours[room] for room in house.rooms()} if ring_in(came) is None else None


def ring_by(house, woods, first, sayings):
    need_first_and_sayings(house, woods, first, sayings)
    return ring_of_steps(house, steps_by(house, woods, first, sayings))


def is_ring_by(house, woods, first, sayings, thing):
    need_first_and_sayings(house, woods, first, sayings)
    if not is_row(thing) or not all([_is_step(house, step) for step in thing]):
        return False
    there_are = {step: True for step in steps_by(house, woods, first, sayings)}
    if not all([(one, other, hours) in there_are for one, other, hours in thing]):
        return False
    begins = [step[0] for step in thing]
    if len(set(begins)) != len(begins) or begins[1:] + begins[:1] != [step[1] for step in thing]:
        return False
    return sum([step[2] for step in thing]) < 0


def _is_step(house, thing):
    """Whether a thing has the kinds of a step, so that it can be looked for among these."""
    if not is_row(thing) or len(thing) != 3:
        return False
    return is_room(house, thing[0]) and is_room(house, thing[1]) and is_integer(thing[2])
