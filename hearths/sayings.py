"""What is said of two rooms: by how many hours one is lit behind the other."""

from hearths.errors import BadSayings
from hearths.fires import need_fire
from hearths.houses import is_room, need_room
from hearths.plain import is_integer, is_row
from hearths.rowsteps import ring_in, rows_from, turned
from hearths.ways import ahead_from
from hearths.woods import need_woods


def is_saying(house, thing):
    if not is_row(thing) or len(thing) != 4:
        return False
    one, other, least, most = thing
    if not is_room(house, one) or not is_room(house, other) or one == other:
        return False
    if not all([hours is None or is_integer(hours) for hours in (least, most)]):
        return False
    return least is None or most is None or least <= most


def need_sayings(house, sayings):
    if not is_row(sayings):
        raise BadSayings(0)
    for at, saying in enumerate(sayings):
        if not is_saying(house, saying):
            raise BadSayings(at)


def need_first_and_sayings(house, woods, first, sayings):
    """Raises BadWoods, then NoRoom of the first room, then BadSayings."""
    need_woods(house, woods)
    need_room(house, first)
    need_sayings(house, sayings)


def is_kept(saying, least, most):
    """Whether a saying holds of all hours from least to most by which its other room is lit behind its one."""
    return (saying[2] is None or saying[2] <= least) and (saying[3] is None or most <= saying[3])


def steps_of_doors(ahead, woods):
    steps = []
    for room, before in ahead.items():
        if before is not None:
            steps.append((before, room, woods[before]))
            steps.append((room, before, -1))
    return steps


def steps_of_sayings(sayings):
    steps = []
    for one, other, least, most in sayings:
        if most is not None:
            steps.append((one, other, most))
        if least is not None:
            steps.append((other, one, -least))
    return steps


def steps_by(house, woods, first, sayings):
    """All steps for a first room and right sayings."""
    return steps_of_doors(ahead_from(house, first), woods) + steps_of_sayings(sayings)


def ring_of_steps(house, steps):
    """A ring of steps, those of all doors among them, None if there is none."""
    return ring_in(rows_from(len(house), steps, house.rooms()[0])[1])


def broken_ones(house, woods, sayings, fire):
    need_woods(house, woods)
    need_sayings(house, sayings)
    need_fire(house, woods, fire)
    behind = [fire[saying[1]] - fire[saying[0]] for saying in sayings]
    return [at for at, hours in enumerate(behind) if not is_kept(sayings[at], hours, hours)]


def early_fire(house, woods, first, sayings):
    """A room is lit as early as the rows from it to the first room tell."""
    need_first_and_sayings(house, woods, first, sayings)
    hours, came = rows_from(len(house), turned(steps_by(house, woods, first, sayings)), first)
    return {room: -hours[room] for room in house.rooms()} if ring_in(came) is None else None


def late_fire(house, woods, first, sayings):
    need_first_and_sayings(house, woods, first, sayings)
    hours, came = rows_from(len(house), steps_by(house, woods, first, sayings), first)
    return {room: hours[room] for room in house.rooms()} if ring_in(came) is None else None


def ring_by(house, woods, first, sayings):
    need_first_and_sayings(house, woods, first, sayings)
    return ring_of_steps(house, steps_by(house, woods, first, sayings))


def is_ring_by(house, woods, first, sayings, thing):
    need_first_and_sayings(house, woods, first, sayings)
    if not is_row(thing) or not all([_is_step(house, step) for step in thing]):
        return False
    there_are = {step: True for step in steps_by(house, woods, first, sayings)}
    if not all([(one, other, hours) in there_are for one, other, hours in thing]):
        return False
    begins = [step[0] for step in thing]
    if len(set(begins)) != len(begins) or begins[1:] + begins[:1] != [step[1] for step in thing]:
        return False
    return sum([step[2] for step in thing]) < 0


def _is_step(house, thing):
    """Whether a thing has the kinds of a step, so that it can be looked for among these."""
    if not is_row(thing) or len(thing) != 3:
        return False
    return is_room(house, thing[0]) and is_room(house, thing[1]) and is_integer(thing[2])
