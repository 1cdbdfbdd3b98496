"""Cottages as texts."""

from hearths.cottages import Cottage, cottage_of, state_of_cottage
from hearths.errors import BadCottage, BadText
from hearths.houses import House, join_lots
from hearths.plain import is_name
from hearths.questions import is_question_of

FIGURES = "0123456789"
MOST_FIGURES = 9


def write_cottage(cottage):
    if not isinstance(cottage, Cottage):
        raise BadCottage(cottage)
    house, woods, book, hour, asked = state_of_cottage(cottage)
    lines = [("hour", str(hour))]
    lines.extend([("room", room, str(woods[room])) for room in house.rooms()])
    lines.extend([("door", one, other) for one, other in house.doors()])
    lines.extend([("lit", room, str(book[room])) for room in sorted(list(book))])
    lines.extend([("hold" if held else "watch",) + question for question, held in asked])
    return "".join([" ".join(line) + "\n" for line in lines])


def _integer_of(word):
    """The integer that Python writes so, None if there is none of few enough figures."""
    figures = word[1:] if word.startswith("-") else word
    if not 1 <= len(figures) <= MOST_FIGURES or not all([sign in FIGURES for sign in figures]):
        return None
    number = int(word)
    return number if str(number) == word else None


class Reading:
    """What is read of a text, line by line. Stages are the places of the kinds of lines: hours, rooms, and so on."""

    def __init__(self):
        self.stage = 0
        self.clock = 0
        self.wood_of = {}
        self.ways = []
        self.lots = {}
        self.noted = {}
        self.asked = []

    def takes(self, line):
        """Whether a text of a cottage can go on by a line, which is read if it can."""
        parts = line.split(" ")
        kind = parts[0]
        if kind == "hour":
            return self.takes_hour(parts)
        if kind == "room":
            return self.takes_room(parts)
        if kind == "door":
            return self.takes_door(parts)
        if kind == "lit":
            return self.takes_lit(parts)
        if kind == "watch" or kind == "hold":
            return self.takes_question(parts)
        return False

    def takes_hour(self, parts):
        hour = _integer_of(parts[1]) if len(parts) == 2 else None
        if self.stage != 0 or hour is None or hour < 0:
            return False
        self.stage = 1
        self.clock = hour
        return True

    def takes_room(self, parts):
        wood = _integer_of(parts[2]) if len(parts) == 3 else None
        if not 1 <= self.stage <= 2 or wood is None or wood < 1 or not is_name(parts[1]):
            return False
        if self.wood_of and parts[1] <= max(list(self.wood_of)):
            return False
        self.stage = 2
        self.wood_of[parts[1]] = wood
        self.lots[parts[1]] = parts[1]
        return True

    def takes_door(self, parts):
        if len(parts) != 3:
            return False
        _, one, other = parts
        if one not in self.lots or other not in self.lots or one > other or self.lots[one] == self.lots[other]:
            return False
        if self.ways and (one, other) < self.ways[-1]:
            return False
        self.stage = 3
        self.ways.append((one, other))
        join_lots(self.lots, self.lots[one], self.lots[other])
        return True

    def takes_lit(self, parts):
        hour = _integer_of(parts[2]) if len(parts) == 3 else None
        if self.stage > 4 or not self.is_whole() or hour is None or parts[1] not in self.wood_of:
            return False
        if self.noted and parts[1] <= max(list(self.noted)):
            return False
        self.stage = 4
        self.noted[parts[1]] = hour
        return True

    def takes_question(self, parts):
        if not self.is_whole() or not is_question_of(self.house_read(), parts[1:]):
            return False
        question = tuple(parts[1:])
        if question in [other for other, _ in self.asked]:
            return False
        self.stage = 5
        self.asked.append((question, parts[0] == "hold"))
        return True

    def is_whole(self):
        """Whether the doors join all rooms: as none makes a ring, that is so just if there are enough."""
        return len(self.wood_of) == len(self.ways) + 1

    def house_read(self):
        return House(list(self.wood_of), self.ways)

    def cottage(self):
        return cottage_of([(self.house_read(), self.wood_of, self.noted, self.clock, tuple(self.asked))], [], [])


def read_cottage(text):
    if not isinstance(text, str):
        raise BadText(0)
    lines = text.split("\n")
    reading = Reading()
    for at, line in enumerate(lines[:-1]):
        if not reading.takes(line):
            raise BadText(at + 1)
    if lines[-1] != "" or not reading.is_whole():
        raise BadText(len(lines))
    return reading.cottage()
