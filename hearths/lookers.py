"""Lookers: functions that look at rooms one by one, and then tell the first room."""

from hearths.branches import Branch
from hearths.cottages import Cottage
from hearths.errors import BadAnswer, BadLooker, HearthError
from hearths.fires import earliest_room, need_fire
from hearths.firecounts import count_fires
from hearths.firenumbers import fire_at
from hearths.houses import House, is_room
from hearths.plain import is_row
from hearths.woods import need_woods


def _need_looker(thing):
    if thing is None or isinstance(thing, (int, str, list, tuple, dict, House, Branch, Cottage, HearthError)):
        raise BadLooker(thing)


def _told_room(house, answer):
    """The room that an answer tells to be the first one, None if it tells none."""
    if not is_row(answer) or len(answer) != 2 or answer[0] != "first":
        return None
    return answer[1] if is_room(house, answer[1]) else None


def _looks(house, fire, looker):
    """The pair of the rooms that a looker looks at and the one it tells."""
    looked = []
    while True:
        answer = looker([(room, fire[room]) for room in looked])
        told = _told_room(house, answer)
        if told is not None:
            break
        if not is_room(house, answer) or answer in looked:
            raise BadAnswer(answer)
        looked.append(answer)
    return (looked, told)


def run_looker(house, woods, fire, looker):
    need_fire(house, woods, fire)
    _need_looker(looker)
    # The looker is somebody else's: what it does to the dict must not reach what is seen.
    return _looks(house, dict(fire), looker)


def beat_looker(house, woods, looker):
    need_woods(house, woods)
    _need_looker(looker)
    fires = [fire_at(house, woods, number) for number in range(count_fires(house, woods))]
    for fire in sorted(fires, key=lambda row: [row[room] for room in row]):
        _, told = _looks(house, fire, looker)
        if told != earliest_room(house, fire):
            return fire
    return None
