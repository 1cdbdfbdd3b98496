import itertools
import random
import unittest

from hearths.errors import BadFire, BadSpans, BadWoods
from hearths.fires import is_fire
from hearths.hourspans import fire_within, is_span_paper, keeps_to, rooms_within, span_paper
from tests.brute import all_within, great_houses, path, random_book, sample_of_objects, small_cases
from tests.test_fires import BAD_WOODS, F, H, W
from tests.test_twohours import H6, W6
from tests.test_ways import raised


def random_spans(chance, house, woods):
    book = random_book(chance, house, woods, 0.6)
    return {room: (hour - chance.randint(0, 1), hour + chance.randint(0, 1)) for room, hour in book.items()}


class Spans(unittest.TestCase):
    """[19]"""

    def check(self, house, woods, spans):
        kept = all_within(house, woods, spans)
        firsts = sorted({first for first, _ in kept})
        self.assertEqual(rooms_within(house, woods, spans), firsts)
        for begin, end in itertools.combinations(firsts, 2):
            self.assertLessEqual(set(path(house, begin, end)), set(firsts))
        fire, paper = fire_within(house, woods, spans), span_paper(house, woods, spans)
        self.assertTrue((fire is None) != (paper is None))
        if kept:
            self.assertIn(fire, [keeping for _, keeping in kept])
            self.assertEqual(list(fire), house.rooms())
            self.assertIs(keeps_to(house, woods, spans, fire), True)
        else:
            self.assertIsNone(fire)
            self.assertEqual(paper, sorted(set(paper)))
            self.assertTrue(1 <= len(paper) <= 4)
            self.assertEqual(all_within(house, woods, {room: spans[room] for room in paper}), [])

    def test_small_houses(self):
        for chance, house, woods in small_cases(40, 120, 5):
            for _ in range(5):
                self.check(house, woods, random_spans(chance, house, woods))

    def test_is_span_paper(self):
        for chance, house, woods in small_cases(41, 30, 5):
            spans = random_spans(chance, house, woods)
            for many in range(1, 6):
                for some in itertools.permutations(sorted(spans), min(many, 3)):
                    barred = not all_within(house, woods, {room: spans[room] for room in some})
                    self.assertIs(is_span_paper(house, woods, spans, list(some)), barred)
        spans = {"a": (0, 0), "b": (3, 3), "c": (2, 2), "d": (0, 0)}
        self.assertIs(is_span_paper(H6, W6, spans, ("d", "c", "b", "a")), True)
        for thing in sample_of_objects(H6) + [["a"], ["a", "b", "c"], ["a", "b", "c", "d", "d"], ["a", "b", "c", "x"]]:
            self.assertIs(is_span_paper(H6, W6, spans, thing), False)

    def test_keeps_to(self):
        self.assertIs(keeps_to(H, W, {}, F), True)
        self.assertIs(keeps_to(H, W, {"a": (4, 4), "d": [0, 9]}, F), True)
        self.assertIs(keeps_to(H, W, {"a": (5, 9)}, F), False)
        self.assertIs(keeps_to(H, W, {"a": (4, 4), "d": (0, 8)}, F), False)

    def test_no_spans(self):
        self.assertTrue(is_fire(H, W, fire_within(H, W, {})))
        self.assertIsNone(span_paper(H, W, {}))
        self.assertEqual(rooms_within(H, W, {}), ["a", "b", "c", "d"])

    def test_lists_for_tuples(self):
        spans = {"a": [0, 1], "c": [3, 4]}
        same = {"c": (3, 4), "a": (0, 1)}
        for call in (fire_within, span_paper, rooms_within):
            self.assertEqual(call(H, W, spans), call(H, W, same))
        self.assertEqual(spans, {"a": [0, 1], "c": [3, 4]})

    def test_example(self):
        fire = fire_within(H6, W6, {"a": (0, 0), "b": (3, 3), "c": (2, 2), "d": (0, 1)})
        self.assertEqual((fire["x"], fire["y"], fire["d"]), (-1, 0, 1))

    def test_errors(self):
        calls = ((keeps_to, (None,)), (fire_within, ()), (span_paper, ()), (is_span_paper, (None,)), (rooms_within, ()))
        for thing in BAD_WOODS + sample_of_objects(H):
            for call, things in calls:
                self.assertIs(raised(self, BadWoods, call, H, thing, None, *things).thing, thing)
        bad = [{"a": (1, 0)}, {"a": 1}, {"a": (1,)}, {"a": (1, 2, 3)}, {"a": (True, 2)}, {"a": (0, None)},
               {"a": (0, 1), "e": (0, 1)}, {"a": "01"}, {"a": {0: 1, 1: 2}}, {"a": ("0", "1")}]
        for thing in [thing for thing in sample_of_objects(H) if thing != {}] + bad:
            for call, things in calls:
                self.assertIs(raised(self, BadSpans, call, H, W, thing, *things).thing, thing)
        for thing in sample_of_objects(H) + [dict(F, d=6)]:
            self.assertIs(raised(self, BadFire, keeps_to, H, W, {}, thing).thing, thing)

    def test_sixty_rooms(self):
        for number, house in enumerate(great_houses()):
            chance = random.Random(number)
            woods = {room: chance.randint(1, 999999999) for room in house.rooms()}
            fire = fire_within(house, woods, {house.rooms()[7]: (-999999999, -5)})
            spans = {room: (hour - chance.randint(0, 9), hour + chance.randint(0, 9)) for room, hour in fire.items()}
            told = fire_within(house, woods, spans)
            self.assertTrue(keeps_to(house, woods, spans, told))
            last = max(fire, key=fire.get)
            spans[last] = (fire[last] - 10 ** 12, fire[last] - 10 ** 12)
            paper = span_paper(house, woods, spans)
            self.assertTrue((paper is None) != (fire_within(house, woods, spans) is None))
            if paper is not None:
                self.assertTrue(is_span_paper(house, woods, spans, paper))


if __name__ == "__main__":
    unittest.main()
