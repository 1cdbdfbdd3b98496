"""Doors that are shut at some hours, and fires that go through them at others."""

from hearths.errors import BadDrafts, BadShut
from hearths.fires import earliest_room, need_fire
from hearths.houses import is_room, need_room, rooms_near
from hearths.lengths import need_hour
from hearths.plain import is_integer, is_row, joined_stretches
from hearths.ways import ahead_from, way
from hearths.woods import need_woods


def is_told_door(house, thing):
    """Whether a thing, a key of a dict, is a door as the house tells them."""
    if not isinstance(thing, tuple) or len(thing) != 2:
        return False
    one, other = thing
    return is_room(house, one) and is_room(house, other) and one < other and other in rooms_near(house)[one]


def is_shut(house, thing):
    if not isinstance(thing, dict):
        return False
    return all([is_told_door(house, door) and _are_unlike_hours(hours) for door, hours in thing.items()])


def _are_unlike_hours(thing):
    if not is_row(thing) or not all([is_integer(hour) for hour in thing]):
        return False
    return len(set(thing)) == len(thing)


def _need_shut(house, woods, shut):
    """Raises BadWoods, then BadShut, for what is none."""
    need_woods(house, woods)
    if not is_shut(house, shut):
        raise BadShut(shut)


def need_drafts(house, woods, drafts):
    """Raises BadWoods, then BadDrafts, for what is none."""
    need_woods(house, woods)
    if not is_shut(house, drafts) or _first_unsafe(woods, drafts) is not None:
        raise BadDrafts(drafts)


def _first_unsafe(woods, shut):
    for one, other in sorted(list(shut)):
        many = min(woods[one], woods[other])
        begun = None
        last = None
        for hour in sorted(shut[(one, other)]):
            if last is None or hour > last + 1:
                begun = hour
            if hour - begun + 1 == many:
                return (one, other, begun)
            last = hour
    return None


def closed_hours(shut):
    """The dict from the doors that are told, in both directions, to the dict of the hours at which they are shut."""
    closed = {}
    for one, other in shut:
        hours = {hour: True for hour in shut[(one, other)]}
        closed[(one, other)] = hours
        closed[(other, one)] = hours
    return closed


def first_open(hours, hour):
    """The first hour, from one on, that is none of some hours."""
    while hour in hours:
        hour += 1
    return hour


def last_open(hours, hour):
    while hour in hours:
        hour -= 1
    return hour


def open_stretches(stretches, hours):
    """The ascending stretches of the integers of such stretches that are none of some hours."""
    left = []
    for least, most in stretches:
        begun = least
        for hour in sorted([hour for hour in hours if least <= hour <= most]):
            if begun < hour:
                left.append((begun, hour - 1))
            begun = hour + 1
        if begun <= most:
            left.append((begun, most))
    return left


def unsafe_at(house, woods, shut):
    _need_shut(house, woods, shut)
    return _first_unsafe(woods, shut)


def blown_out(house, woods, drafts, fire):
    need_drafts(house, woods, drafts)
    need_fire(house, woods, fire)
    closed = closed_hours(drafts)
    ahead = ahead_from(house, earliest_room(house, fire))
    return [room for room in house.rooms() if fire[room] in closed.get((ahead[room], room), {})]


def _need_two_and_hour(house, one, other, hour):
    need_room(house, one)
    need_room(house, other)
    need_hour(hour)


def drafty_span(house, woods, drafts, one, other, hour):
    need_drafts(house, woods, drafts)
    _need_two_and_hour(house, one, other, hour)
    closed = closed_hours(drafts)
    rooms = way(house, one, other)
    least, most = hour, hour
    for near, far in zip(rooms, rooms[1:]):
        hours = closed.get((near, far), {})
        least = first_open(hours, least + 1)
        most = last_open(hours, most + woods[near])
    return (least, most)


def drafty_back(house, woods, drafts, one, other, hour):
    need_drafts(house, woods, drafts)
    _need_two_and_hour(house, one, other, hour)
    closed = closed_hours(drafts)
    rooms = way(house, other, one)
    least, most = hour, hour
    for far, near in zip(rooms, rooms[1:]):
        hours = closed.get((near, far), {})
        least = first_open(hours, least)
        most = last_open(hours, most)
        if least > most:
            return None
        least, most = least - woods[near], most - 1
    return (least, most)


def lit_hours(house, woods, shut, one, other, hour):
    _need_shut(house, woods, shut)
    _need_two_and_hour(house, one, other, hour)
    closed = closed_hours(shut)
    rooms = way(house, one, other)
    stretches = [(hour, hour)]
    for near, far in zip(rooms, rooms[1:]):
        onward = joined_stretches([(least + 1, most + woods[near]) for least, most in stretches])
        stretches = open_stretches(onward, closed.get((near, far), {}))
    return stretches
