import itertools
import unittest

from hearths.plain import ascending, bad_index, is_from_one, is_integer, is_name, is_span, joined_stretches
from tests.brute import stretches_of


class Plain(unittest.TestCase):
    """[3]"""

    def test_integers(self):
        for thing in (0, -5, 10 ** 40):
            self.assertTrue(is_integer(thing))
        for thing in (True, False, None, "1", [1], (1,), {}, len):
            self.assertFalse(is_integer(thing))
            self.assertFalse(is_from_one(thing))
        self.assertEqual([is_from_one(thing) for thing in (-1, 0, 1, 2)], [False, False, True, True])

    def test_names_and_spans(self):
        self.assertTrue(is_name("a1b2c3d4e5f6"))
        self.assertFalse(is_name("a1b2c3d4e5f6g"))
        for thing in ((0, 0), [-1, 4]):
            self.assertTrue(is_span(thing))
        for thing in ((1, 0), (0,), (0, 1, 2), (True, 2), (0, True), None, "01", {0: 0, 1: 1}):
            self.assertFalse(is_span(thing))

    def test_bad_index(self):
        self.assertIsNone(bad_index([], is_name))
        self.assertIsNone(bad_index(("a", "b"), is_name))
        self.assertEqual(bad_index(["a", "b", "a", "B"], is_name), 2)
        self.assertEqual(bad_index(["a", [], "a"], is_name), 1)
        self.assertEqual(bad_index("ab", is_name), 0)

    def test_joined_stretches(self):
        spans = [(least, most) for least in range(0, 8, 2) for most in range(least, 8, 2)]
        for some in itertools.combinations(spans, 3):
            hours = {hour for least, most in some for hour in range(least, most + 1)}
            self.assertEqual(joined_stretches(list(some[::-1])), stretches_of(hours))
        self.assertEqual(joined_stretches([(9, 9), (5, 6), (1, 1), (7, 8), (5, 5), (2, 2)]), [(1, 2), (5, 9)])
        self.assertEqual(joined_stretches([]), [])

    def test_ascending(self):
        table = {"b": 1, "a": 2}
        self.assertEqual(list(ascending(table).items()), [("a", 2), ("b", 1)])
        self.assertEqual(list(table), ["b", "a"])


if __name__ == "__main__":
    unittest.main()
