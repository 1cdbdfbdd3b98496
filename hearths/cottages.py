"""A house that lives: it grows, hours go by, fire is carried, hours are noted and struck, questions are held."""

from hearths.builtfires import fire_for
from hearths.deeds import kept_deed, state_behind
from hearths.errors import BadName, BadQuestion, BadWood, NoCount, WouldChange
from hearths.firsthours import could_be
from hearths.houses import House, need_room
from hearths.plain import ascending, is_from_one, is_name, is_number
from hearths.questions import answer_of, is_question_of


class Cottage:
    """A house that lives, with all its states, the deeds between them, and what was taken back."""

    def __init__(self, room, wood):
        if not is_name(room):
            raise BadName(room)
        if not is_from_one(wood):
            raise BadWood(wood)
        self._states = [(House([room], []), {room: wood}, {}, 0, ())]
        self._deeds = []
        self._taken = []

    def now(self):
        return self._states[-1][0]

    def woods(self):
        return ascending(self._states[-1][1])

    def book(self):
        return ascending(self._states[-1][2])

    def hour(self):
        return self._states[-1][3]

    def watched(self):
        state = self._states[-1]
        return [(question, _answer(state, question), held) for question, held in state[4]]

    def do(self, deed):
        behind = state_behind(self._states[-1], deed)
        changes = _changes(self._states[-1], behind)
        held = [question for question, is_held in self._states[-1][4] if is_held]
        for question, _, _ in changes:
            if question in held:
                raise WouldChange(question)
        self._states.append(behind)
        self._deeds.append(kept_deed(deed))
        self._taken = []
        return changes

    def is_question(self, thing):
        return is_question_of(self._states[-1][0], thing)

    def answer(self, question):
        if not is_question_of(self._states[-1][0], question):
            raise BadQuestion(question)
        return _answer(self._states[-1], question)

    def would(self, deed):
        return _changes(self._states[-1], state_behind(self._states[-1], deed))

    def could_note(self, room):
        house, woods, book, _, _ = self._states[-1]
        need_room(house, room)
        others = {far: book[far] for far in book if far != room}
        return could_be(house, woods, others, room) if others else None

    def mending_rooms(self):
        house, woods, book, _, _ = self._states[-1]
        if fire_for(house, woods, book) is not None:
            return []
        mending = []
        for room in sorted(list(book)):
            if fire_for(house, woods, {far: book[far] for far in book if far != room}) is not None:
                mending.append(room)
        return mending

    def count(self):
        return len(self._deeds)

    def deeds(self):
        return list(self._deeds)

    def undo(self):
        if not self._deeds:
            return None
        deed = self._deeds.pop()
        self._taken.append((deed, self._states.pop()))
        return deed

    def again(self):
        if not self._taken:
            return None
        deed, state = self._taken.pop()
        self._deeds.append(deed)
        self._states.append(state)
        return deed

    def copy(self):
        return cottage_of(self._states, self._deeds, self._taken)

    def at(self, number):
        if not is_number(number) or number > len(self._deeds):
            raise NoCount(number)
        return cottage_of(self._states[:number + 1], self._deeds[:number], [])

    def trial(self, work):
        states, deeds, taken = list(self._states), list(self._deeds), list(self._taken)
        try:
            return work(self)
        finally:
            self._states, self._deeds, self._taken = states, deeds, taken

    def __eq__(self, other):
        return isinstance(other, Cottage) and self._states[-1] == other._states[-1]


def cottage_of(states, deeds, taken):
    """A cottage with such states, the deeds between them, and the pairs of deeds taken back and their states."""
    made = Cottage("a", 1)
    made._states = list(states)
    made._deeds = list(deeds)
    made._taken = list(taken)
    return made


def state_of_cottage(cottage):
    """The state of a cottage now: to be read only."""
    return cottage._states[-1]


def _answer(state, question):
    house, woods, book, _, _ = state
    return answer_of(house, woods, book, question)


def _changes(ahead, behind):
    """The list of the triples of the watched questions that are answered otherwise, and both answers."""
    changes = []
    for question, _ in ahead[4]:
        was, is_now = _answer(ahead, question), _answer(behind, question)
        if was != is_now:
            changes.append((question, was, is_now))
    return changes
