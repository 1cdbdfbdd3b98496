import itertools
import random
import unittest

from hearths.drafts import blown_out, drafty_back, drafty_span, is_shut, lit_hours, unsafe_at
from hearths.errors import BadDrafts, BadFire, BadHour, BadShut, BadWoods, NoRoom
from tests.brute import all_fires, great_houses, moved, outward, path, random_woods, small_cases, stretches_of
from tests.test_fires import F, H, W
from tests.wrong import ALL, FIRES, INTEGERS, ROOMS, WOODS, check_errors, in_turns, one_room, turned_dict, with_lists

D = {("a", "b"): [5]}
BAD_SHUT = [thing for thing in ALL if thing != {}] + [
    {("b", "a"): [5]}, {("a", "c"): [5]}, {("a", "b"): [5, 5]}, {("a", "b"): [True]}, {("a", "b"): 5},
    {("a", "b"): None}, {("a", "b"): [None]}, {("a", "b"): ["5"]}, {("a", "b"): {5: 5}}, {"ab": [5]}, {("a",): [5]},
    {("a", "b", "c"): [5]}, {("a", "b"): [[5]]}, {("a", "x"): []}, {("a", 1): []}, {(1, "a"): []},
    {("A", "b"): []}, {("", "a"): [1]}, {None: []}, {("a", "a"): []},
    {("a", "b"): [5], ("b", "a"): []}, {("a", "b"): [1, 0, 1]}, {("a", "b"): "12"}]
UNSAFE = [{("b", "c"): [3]}, {("a", "b"): [4, 5]}, {("a", "b"): [5, 1, 4]}, dict(D, **{}) | {("b", "d"): (-7,)}]


def random_shut(chance, house, least=-4, most=9, chances=(0.3, 0.6)):
    """Some doors shut at some hours, in any order."""
    shut = {}
    for door in house.doors():
        if chance.random() < 0.7:
            often = chance.choice(chances)
            hours = [hour for hour in range(least, most) if chance.random() < often]
            chance.shuffle(hours)
            shut[door] = hours
    return shut


def first_unsafe(house, woods, shut):
    """By the words of [65], hour by hour."""
    for one, other in house.doors():
        hours = set(shut.get((one, other), []))
        for begin in sorted(hours):
            if all(begin + more in hours for more in range(min(woods[one], woods[other]))):
                return (one, other, begin)
    return None


def random_drafts(chance, house, woods, least=-4, most=9):
    """Hours are opened again until what is shut is safe."""
    shut = random_shut(chance, house, least, most)
    while True:
        door = first_unsafe(house, woods, shut)
        if door is None:
            return shut
        run = [door[2] + more for more in range(min(woods[door[0]], woods[door[1]]))]
        shut[door[:2]].remove(chance.choice(run))


def is_open(shut, one, other, hour):
    return hour not in shut.get((min(one, other), max(one, other)), [])


def blown(house, shut, first, fire):
    return sorted(room for room, came in outward(house, first)[1:] if not is_open(shut, came, room, fire[room]))


def hours_on(house, woods, shut, one, other, hour):
    """All hours at which other can be lit, going hour by hour through the doors."""
    hours = {hour}
    rooms = path(house, one, other)
    for near, far in zip(rooms, rooms[1:]):
        hours = {then + step for then in hours for step in range(1, woods[near] + 1)}
        hours = {then for then in hours if is_open(shut, near, far, then)}
    return hours


class Shut(unittest.TestCase):
    """[65]"""

    def test_is_shut(self):
        for thing in ({}, D, {("a", "b"): ()}, {("b", "d"): [4, -4, 0], ("a", "b"): (7,)}, UNSAFE[0]):
            self.assertIs(is_shut(H, thing), True)
        for thing in BAD_SHUT:
            self.assertIs(is_shut(H, thing), False)
        self.assertIs(is_shut(one_room(), {}), True)
        self.assertIs(is_shut(one_room(), D), False)

    def test_unsafe_at(self):
        found = {True: 0, False: 0}
        for chance, house, woods in small_cases(200, 200, 6, 4):
            shut = random_shut(chance, house)
            where = first_unsafe(house, woods, shut)
            found[where is None] += 1
            self.assertEqual(unsafe_at(house, woods, shut), where)
            self.assertEqual(unsafe_at(house, turned_dict(woods), turned_dict(with_lists(shut))), where)
            self.assertIsNone(unsafe_at(house, woods, random_drafts(chance, house, woods)))
        self.assertTrue(min(found.values()) > 30)

    def test_first_such_hours(self):
        woods = dict(W, a=2, b=2)
        self.assertEqual(unsafe_at(H, woods, {("a", "b"): [9, 1, 4, 3, 8]}), ("a", "b", 3))
        self.assertIsNone(unsafe_at(H, woods, {("a", "b"): [1, 3, 5, -1]}))
        self.assertEqual(unsafe_at(H, woods, {("a", "b"): [0, -1, 1]}), ("a", "b", -1))
        self.assertEqual(unsafe_at(H, woods, {("b", "d"): [9], ("b", "c"): [10, 7]}), ("b", "c", 7))
        self.assertIsNone(unsafe_at(H, woods, {}))

    def test_errors(self):
        check_errors(self, unsafe_at, (H, W, D), [(1, BadWoods, WOODS), (2, BadShut, BAD_SHUT)])
        check_errors(self, blown_out, (H, W, D, F), [(1, BadWoods, WOODS), (2, BadDrafts, BAD_SHUT + UNSAFE),
                                                     (3, BadFire, FIRES)])
        for call in (drafty_span, drafty_back):
            check_errors(self, call, (H, W, D, "a", "b", 4),
                         [(1, BadWoods, WOODS), (2, BadDrafts, BAD_SHUT + UNSAFE), (3, NoRoom, ROOMS),
                          (4, NoRoom, ROOMS), (5, BadHour, INTEGERS)])
        check_errors(self, lit_hours, (H, W, UNSAFE[0], "a", "b", 4),
                     [(1, BadWoods, WOODS), (2, BadShut, BAD_SHUT), (3, NoRoom, ROOMS), (4, NoRoom, ROOMS),
                      (5, BadHour, INTEGERS)])


class WithDrafts(unittest.TestCase):
    """[66]"""

    def test_blown_out(self):
        none = 0
        for chance, house, woods in small_cases(201, 60, 5):
            drafts = random_drafts(chance, house, woods)
            for first, fire in all_fires(house, woods):
                rooms = blown(house, drafts, first, fire)
                none += not rooms
                self.assertEqual(blown_out(house, woods, drafts, fire), rooms)
                self.assertEqual(blown_out(house, woods, {}, moved(fire, 7)), [])
        self.assertGreater(none, 100)

    def test_first_room_is_lit_through_no_door(self):
        self.assertEqual(blown_out(H, W, {("a", "b"): [4]}, F), [])
        self.assertEqual(blown_out(H, W, {("a", "b"): [6]}, F), ["b"])
        self.assertEqual(blown_out(one_room(), {"a": 1}, {}, {"a": 5}), [])


class RoomToRoom(unittest.TestCase):
    """[67]"""

    def test_hour_by_hour(self):
        gaps = 0
        for chance, house, woods in small_cases(202, 60, 6, 4):
            drafts = random_drafts(chance, house, woods)
            told = turned_dict(with_lists(drafts))
            for one, other in itertools.product(house.rooms(), repeat=2):
                on = {hour: hours_on(house, woods, drafts, one, other, hour) for hour in range(-30, 30)}
                for hour in range(-6, 8):
                    hours = on[hour]
                    least, most = drafty_span(house, woods, drafts, one, other, hour)
                    self.assertEqual((least, most), (min(hours), max(hours)))
                    self.assertEqual(drafty_span(house, woods, told, one, other, hour), (least, most))
                    if one != other:
                        near = path(house, other, one)[1]
                        between = {then for then in range(least, most + 1) if is_open(drafts, near, other, then)}
                        self.assertEqual(hours, between)
                    gaps += len(hours) < most - least + 1
                    self.check_back(house, woods, drafts, one, other, hour, on)
        self.assertGreater(gaps, 50)

    def check_back(self, house, woods, drafts, one, other, hour, on):
        begun = {then for then in on if hour in on[then]}
        back = drafty_back(house, woods, drafts, one, other, hour)
        self.assertEqual(back, (min(begun), max(begun)) if begun else None)
        self.assertTrue(not begun or len(begun) == max(begun) - min(begun) + 1)

    def test_one_room(self):
        for call in (drafty_span, drafty_back):
            self.assertEqual(call(H, W, D, "b", "b", 5), (5, 5))
        self.assertIsNone(drafty_back(H, W, D, "a", "b", 5))
        self.assertEqual(drafty_back(H, W, D, "b", "a", 4), (1, 3))
        self.assertIsNone(drafty_back(H, W, D, "b", "a", 5))

    def test_sixty_rooms(self):
        for number, house in enumerate(great_houses()):
            chance = random.Random(number)
            for most in (3, 999999999):
                woods = random_woods(chance, house, most)
                drafts = random_drafts(chance, house, woods, -15, 15)
                one, other = house.rooms()[0], house.rooms()[-1]
                least, most_hour = drafty_span(house, woods, drafts, one, other, -10)
                for hour in (least, most_hour):
                    begun = drafty_back(house, woods, drafts, one, other, hour)
                    self.assertTrue(begun[0] <= -10 <= begun[1])
                for hour, near in ((least - 1, -10), (most_hour + 1, -10)):
                    begun = drafty_back(house, woods, drafts, one, other, hour)
                    self.assertTrue(begun is None or not begun[0] <= near <= begun[1])
                stretches = lit_hours(house, woods, drafts, one, other, -10)
                self.assertEqual((stretches[0][0], stretches[-1][1]), (least, most_hour))

    def test_example(self):
        """[74]"""
        self.assertEqual(drafty_span(H, W, D, "a", "b", 4), (6, 6))
        self.assertEqual(drafty_span(H, W, D, "a", "d", 4), (7, 9))
        self.assertEqual(drafty_back(H, W, D, "a", "d", 8), (4, 6))
        self.assertEqual(unsafe_at(H, W, {("b", "c"): [3]}), ("b", "c", 3))


class NotSafe(unittest.TestCase):
    """[73]"""

    def test_hour_by_hour(self):
        dead = 0
        for chance, house, woods in small_cases(203, 100, 5, 3):
            shut = random_shut(chance, house)
            some_dies = False
            for one, other in itertools.product(house.rooms(), repeat=2):
                for hour in range(-8, 12):
                    hours = hours_on(house, woods, shut, one, other, hour)
                    self.assertEqual(lit_hours(house, woods, shut, one, other, hour), stretches_of(hours))
                    some_dies = some_dies or not hours
            dead += some_dies
            self.assertEqual(some_dies, unsafe_at(house, woods, shut) is not None)
        self.assertTrue(20 < dead < 80)

    def test_edges(self):
        shut = {("a", "b"): [1, 2], ("b", "c"): [4]}
        self.assertEqual(lit_hours(H, W, shut, "a", "b", 0), [])
        self.assertEqual(lit_hours(H, W, shut, "a", "c", 0), [])
        self.assertEqual(lit_hours(H, W, shut, "a", "b", 1), [(3, 3)])
        self.assertEqual(lit_hours(H, W, shut, "a", "c", 1), [(5, 6)])
        self.assertEqual(lit_hours(H, W, shut, "b", "c", 2), [(3, 3), (5, 5)])
        self.assertEqual(lit_hours(H, W, shut, "b", "b", 2), [(2, 2)])
        self.assertEqual(lit_hours(H, dict(W, b=999999999), shut, "b", "c", 0), [(1, 3), (5, 999999999)])

    def test_in_turns(self):
        other = {("a", "b"): [6], ("b", "d"): []}
        in_turns(self, [lambda: drafty_span(H, W, D, "a", "d", 4), lambda: drafty_span(H, W, other, "a", "d", 4),
                        lambda: lit_hours(H, W, D, "a", "d", 4), lambda: drafty_span(H, dict(W, a=9), D, "a", "d", 4),
                        lambda: blown_out(H, W, {("a", "b"): [6]}, F), lambda: drafty_back(H, W, D, "a", "d", 8)])
        shut, woods = {("a", "b"): [5]}, dict(W)
        self.assertEqual(drafty_span(H, woods, shut, "a", "b", 4), (6, 6))
        shut[("a", "b")][0] = 6
        self.assertEqual(drafty_span(H, woods, shut, "a", "b", 4), (5, 5))
        woods["a"] = 3
        self.assertEqual(drafty_span(H, woods, shut, "a", "b", 4), (5, 7))
        shut[("a", "b")].extend([7, 5])
        self.assertEqual(unsafe_at(H, woods, shut), ("a", "b", 5))


if __name__ == "__main__":
    unittest.main()
