import random
import unittest

from hearths.cottages import Cottage
from hearths.cottagetexts import read_cottage, write_cottage
from hearths.errors import BadCottage, BadText, HearthError
from tests.test_cottages import BUILDING, CARRYING, QUESTIONS, built
from tests.test_ways import raised
from tests.wrong import ALL

TEXT = """hour 5
room a 2
room b 3
room c 1
room d 1
door a b
door b c
door b d
lit a 0
lit b 2
lit d -5
watch fits
hold first a
watch late d
"""
LINES = TEXT.split("\n")[:-1]


def example():
    return built(*BUILDING, ("wait", 5), ("note", "a", 0), ("note", "b", 2), ("note", "d", -5), ("watch", ("fits",)),
                 ("hold", ("first", "a")), ("watch", ("late", "d")))


def joined(lines):
    return "".join(line + "\n" for line in lines)


class Written(unittest.TestCase):
    """[131]"""

    def test_lines(self):
        self.assertEqual(write_cottage(example()), TEXT)
        self.assertEqual(write_cottage(Cottage("b", 3)), "hour 0\nroom b 3\n")
        self.assertEqual(write_cottage(built(*BUILDING, *CARRYING)),
                         "hour 5\nroom a 2\nroom b 3\nroom c 1\nroom d 1\ndoor a b\ndoor b c\ndoor b d\n"
                         "lit a 0\nlit b 2\nlit c 3\nlit d 5\n")

    def test_read_back(self):
        cottage = read_cottage(TEXT)
        self.assertIsInstance(cottage, Cottage)
        self.assertEqual(cottage, example())
        self.assertEqual((cottage.count(), cottage.deeds(), cottage.undo(), cottage.again()), (0, [], None, None))
        self.assertEqual(cottage.at(0), example())
        self.assertEqual(write_cottage(cottage), TEXT)
        cottage.do(("pull", "c"))
        self.assertEqual(cottage.undo(), ("pull", "c"))
        self.assertEqual(cottage, example())

    def test_random_cottages(self):
        for seed in range(60):
            chance = random.Random(seed)
            cottage = Cottage(f"n{chance.randint(0, 99)}", chance.randint(1, 25))
            for _ in range(chance.randint(0, 30)):
                rooms = cottage.now().rooms()
                room = chance.choice(rooms)
                deed = chance.choice([("build", f"n{chance.randint(0, 99)}", room, chance.randint(1, 25)), ("wait", 3),
                                      ("note", room, chance.randint(-60, 200)), ("strike", room), ("pull", room),
                                      (chance.choice(["watch", "hold"]), chance.choice([("fits",), ("first", room)]))])
                try:
                    if len(rooms) < 10 or deed[0] != "build":
                        cottage.do(deed)
                except HearthError:
                    pass
            text = write_cottage(cottage)
            there = read_cottage(text)
            self.assertEqual(there, cottage)
            self.assertEqual(there.watched(), cottage.watched())
            self.assertEqual((there.now(), there.woods(), there.book(), there.hour()),
                             (cottage.now(), cottage.woods(), cottage.book(), cottage.hour()))
            self.assertEqual(write_cottage(there), text)

    def test_nine_figures(self):
        cottage = built(("lay", "b", 999999996), ("wait", 999999999), ("note", "b", -999999999), ("build", "a", "b", 1),
                        ("note", "a", 999999999))
        self.assertEqual(write_cottage(cottage), "hour 999999999\nroom a 1\nroom b 999999999\ndoor a b\n"
                                                 "lit a 999999999\nlit b -999999999\n")
        self.assertEqual(read_cottage(write_cottage(cottage)), cottage)

    def test_bad_cottage(self):
        for thing in ALL + [TEXT, Cottage, BadCottage(1)]:
            self.assertIs(raised(self, BadCottage, write_cottage, thing).thing, thing)


class Read(unittest.TestCase):
    """[131]"""

    def bad(self, text, line):
        self.assertEqual(raised(self, BadText, read_cottage, text).line, line, text)

    def with_line(self, at, line):
        """The text with another line, counted from 1, or without it."""
        return joined(LINES[:at - 1] + ([line] if line is not None else []) + LINES[at:])

    def test_no_string(self):
        for thing in ALL:
            if not isinstance(thing, str):
                self.bad(thing, 0)
        self.bad(["hour 0\n", "room a 1\n"], 0)

    def test_empty_and_short(self):
        self.bad("", 1)
        self.bad("\n", 1)
        self.bad("zz", 1)
        self.bad("hour 0", 1)
        self.bad("hour 0\n", 2)
        self.bad("hour 0\nroom a 1", 2)
        self.bad("hour 0\nroom a 1\nroom b 1\n", 4)
        self.bad("hour 0\nroom a 1\nroom b 1\nroom c 1\ndoor a b\n", 6)
        self.assertEqual(read_cottage("hour 0\nroom a 1\n"), Cottage("a", 1))

    def test_each_line_left_out(self):
        bad = {1: 1, 2: 5, 3: 5, 4: 6, 5: 7, 6: 8, 7: 8, 8: 8}
        for at in range(1, len(LINES) + 1):
            text = self.with_line(at, None)
            if at in bad:
                self.bad(text, bad[at])
            else:
                self.assertEqual(write_cottage(read_cottage(text)), text)

    def test_each_line_twice(self):
        for at, line in enumerate(LINES, 1):
            self.bad(joined(LINES[:at] + [line] + LINES[at:]), at + 1)

    def test_two_lines_exchanged(self):
        for at in range(1, len(LINES)):
            lines = list(LINES)
            lines[at - 1], lines[at] = lines[at], lines[at - 1]
            if at >= 12:
                self.assertNotEqual(read_cottage(joined(lines)), example())
            else:
                self.bad(joined(lines), {1: 1, 8: 8}.get(at, at + 1))

    def test_signs_more_and_less(self):
        for at, line in enumerate(LINES, 1):
            for other in (line + " ", " " + line, line.replace(" ", "  ", 1), line.replace(" ", "\t", 1), line + "\r",
                          line.upper(), line.replace(" ", "", 1), line + " 1", "", " ", "x" + line, line.rsplit(" ", 1)[0],
                          line.replace(" ", "_"), line + "\n", "\n" + line):
                self.bad(self.with_line(at, other), at + (1 if other.startswith(line + "\n") else 0))

    def test_line_feeds(self):
        for at in range(1, len(LINES) + 1):
            self.bad(joined(LINES[:at])[:-1], at)
            self.bad(joined(LINES[:at]) + "\n", at + 1)
            self.bad(joined(LINES[:at])[:-2], at)
        self.bad("\n" + TEXT, 1)
        self.bad(self.with_line(4, "room c 0")[:-1], 4)

    def test_each_start(self):
        """a text that ends too early, by whole lines and by signs"""
        for at in range(len(TEXT)):
            text = TEXT[:at]
            lines = text.count("\n")
            if text.endswith("\n") and (lines == 2 or lines >= 8):
                self.assertEqual(write_cottage(read_cottage(text)), text)
            else:
                self.bad(text, lines + 1)

    def test_integers(self):
        for word in ("+5", "05", "-0", "5.0", "5_0", "0x5", "1000000000", "-1000000000", "five", "", "--5", "-", "5-",
                     "\u0665", "5e1", "None", "True"):
            self.bad(self.with_line(1, f"hour {word}"), 1)
            self.bad(self.with_line(3, f"room b {word}"), 3)
            self.bad(self.with_line(10, f"lit b {word}"), 10)
        for word in ("-1", "-999999999"):
            self.bad(self.with_line(1, f"hour {word}"), 1)
            self.bad(self.with_line(3, f"room b {word}"), 3)
            self.assertEqual(read_cottage(self.with_line(10, f"lit b {word}")).book()["b"], int(word))
        self.bad(self.with_line(3, "room b 0"), 3)
        for word in ("0", "999999999"):
            self.assertEqual(read_cottage(self.with_line(1, f"hour {word}")).hour(), int(word))
            self.assertEqual(read_cottage(self.with_line(10, f"lit b {word}")).book()["b"], int(word))

    def test_rooms(self):
        for name in ("B", "1b", "b-", "abcdefghijklm", "", "a", "\u00e4"):
            self.bad(self.with_line(3, f"room {name} 3"), 3)
        self.bad(self.with_line(3, "room bb 3"), 6)
        self.bad(self.with_line(3, "room c 3"), 4)
        self.bad(joined(LINES[:6] + ["room e 1"] + LINES[6:]), 7)
        self.bad("hour 0\nlit a 1\n", 2)
        self.bad("hour 0\ndoor a b\n", 2)
        self.bad("hour 0\nwatch fits\n", 2)
        self.bad("hour 0\nhour 0\n", 2)
        self.bad("room a 1\n", 1)
        self.bad("hour 0\nroom a 1\nlit a 4\nroom b 1\ndoor a b\n", 4)
        self.bad("hour 0\nroom a 1\nwatch fits\nroom b 1\ndoor a b\n", 4)
        self.bad("hour 0\nroom a 1\nwatch fits\nlit a 1\n", 4)

    def test_doors(self):
        for line in ("door b a", "door a a", "door a z", "door z a", "door a", "door a b c", "door A b"):
            self.bad(self.with_line(6, line), 6)
        self.bad(self.with_line(7, "door a b"), 7)
        self.bad(joined(LINES[:5] + ["door a b", "door a c", "door b c"] + LINES[8:]), 8)
        self.bad(joined(LINES[:5] + ["door a b", "door b d", "door b c"] + LINES[8:]), 8)
        self.bad(joined(LINES[:5] + ["door b c", "door a b", "door b d"] + LINES[8:]), 7)
        self.bad(joined(LINES[:8] + ["door c d"] + LINES[8:]), 9)
        self.bad(joined(LINES[:7] + LINES[8:]), 8)
        self.bad(joined(LINES[:5] + ["door c d"] + LINES[8:]), 7)
        self.bad(joined(LINES[:5] + LINES[11:]), 6)
        self.assertEqual(read_cottage(joined(LINES[:5] + ["door a d", "door b c", "door c d"])).now().doors(),
                         [("a", "d"), ("b", "c"), ("c", "d")])
        self.bad(joined(LINES[:5] + ["door a b", "door a c", "door b c", "door c d"]), 8)

    def test_lit(self):
        for line in ("lit z 1", "lit a 1", "lit b", "lit b 1 1", "lit B 1", "lit  1"):
            self.bad(self.with_line(10, line), 10)
        self.bad(self.with_line(10, "lit d 1"), 11)
        self.bad(joined(LINES[:12] + ["lit d 1"]), 13)

    def test_questions(self):
        for line in ("watch", "watch ", "watch fit", "watch first", "watch first z", "watch fits a", "watch first a b",
                     "watch first a", "hold first a", "hold late", "free fits", "watch early  b", "watch fits ",
                     "watch ('fits',)", "Watch firsts", "hold fits"):
            self.bad(self.with_line(14, line), 14)
        for question in QUESTIONS:
            if question[-1] != "e" and question not in (("fits",), ("first", "a")):
                for kind in ("watch", "hold"):
                    text = self.with_line(14, " ".join((kind,) + question))
                    cottage = read_cottage(text)
                    self.assertEqual(cottage.watched()[-1], (question, cottage.answer(question), kind == "hold"))
                    self.assertEqual(write_cottage(cottage), text)

    def test_eight_thousand_signs(self):
        rooms = [f"r{at:03}" for at in range(200)]
        text = joined(["hour 7"] + [f"room {room} 3" for room in rooms]
                      + [f"door {one} {other}" for one, other in zip(rooms, rooms[1:])] + ["lit r000 5"])
        self.assertTrue(len(text) > 5000)
        self.assertEqual(write_cottage(read_cottage(text)), text)


if __name__ == "__main__":
    unittest.main()
