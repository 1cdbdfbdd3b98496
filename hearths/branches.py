"""Branches: parts of a greater house behind one door, as they are seen from around."""

from hearths.books import need_book, need_woods_and_book
from hearths.builtfires import spans_of
from hearths.errors import BadBranch, BadPairs, BadWood
from hearths.firsthours import could_be
from hearths.hourspans import early_fire_in, ends_beyond, fire_in_spans, pair_against
from hearths.houses import need_room
from hearths.lengths import need_hour
from hearths.otherhouses import joined_by, part_of
from hearths.plain import ascending, is_from_one, is_row, is_span, joined_stretches
from hearths.ways import ahead_from, behind
from hearths.woods import fire_steps, need_woods


class Branch:
    """A house whose room rim has one door more, with woods and a book."""

    def __init__(self, house, rim, woods, book):
        need_room(house, rim)
        need_woods(house, woods)
        need_book(house, book)
        self._house = house
        self._rim = rim
        self._woods = ascending(woods)
        self._book = ascending(book)

    def house(self):
        return self._house

    def rim(self):
        return self._rim

    def woods(self):
        return dict(self._woods)

    def book(self):
        return dict(self._book)

    def __eq__(self, other):
        return (isinstance(other, Branch) and self._house == other._house and self._rim == other._rim
                and self._woods == other._woods and self._book == other._book)


def need_branch(thing):
    if not isinstance(thing, Branch):
        raise BadBranch(thing)


def comes_in(branch):
    need_branch(branch)
    spans = spans_of(branch.book())
    if len(spans) == 0:
        return (None, None)
    ahead = ahead_from(branch.house(), branch.rim())
    if pair_against(ahead, branch.woods(), spans) is not None:
        return None
    low, high = ends_beyond(ahead, fire_steps(ahead, branch.woods()), spans)
    return (low[branch.rim()][0], high[branch.rim()][0])


def rim_hours(branch):
    need_branch(branch)
    return could_be(branch.house(), branch.woods(), branch.book(), branch.rim())


def goes_out(branch):
    need_branch(branch)
    if len(branch.book()) == 0:
        return [(None, None)]
    wood = branch.woods()[branch.rim()]
    return joined_stretches([(least + 1, most + wood) for least, most in rim_hours(branch)])


def _spans_with_rim(branch, least, most):
    """The spans of the book and of the rim, that from least to most, or None if its noted hour lies beyond."""
    spans = spans_of(branch.book())
    if branch.rim() not in spans:
        spans[branch.rim()] = (least, most)
    return spans if least <= spans[branch.rim()][0] and spans[branch.rim()][1] <= most else None


def inner_fire(branch, hour):
    need_branch(branch)
    need_hour(hour)
    spans = _spans_with_rim(branch, hour, hour)
    ahead = ahead_from(branch.house(), branch.rim())
    if spans is None or pair_against(ahead, branch.woods(), spans) is not None:
        return None
    return early_fire_in(ahead, branch.woods(), spans)


def outer_fire(branch, hour):
    need_branch(branch)
    need_hour(hour)
    spans = _spans_with_rim(branch, hour - branch.woods()[branch.rim()], hour - 1)
    return None if spans is None else fire_in_spans(branch.house(), branch.woods(), spans)


def hung(one, room, other):
    need_branch(one)
    need_room(one.house(), room)
    need_branch(other)
    house = joined_by(one.house(), other.house(), room, other.rim())
    woods = one.woods()
    woods.update(other.woods())
    book = one.book()
    book.update(other.book())
    return Branch(house, one.rim(), woods, book)


def cut_off(house, woods, book, room, other):
    need_woods_and_book(house, woods, book)
    part = part_of(house, behind(house, room, other))
    noted = {far: book[far] for far in part.rooms() if far in book}
    return Branch(part, other, {far: woods[far] for far in part.rooms()}, noted)


def _is_pair(thing):
    """Whether a thing is what comes_in tells, but None."""
    return is_span(thing) or (is_row(thing) and len(thing) == 2 and thing[0] is None and thing[1] is None)


def span_from(hour, wood, spans):
    if hour is not None:
        need_hour(hour)
    if not is_from_one(wood):
        raise BadWood(wood)
    if not is_row(spans):
        raise BadPairs(0)
    for at, span in enumerate(spans):
        if not _is_pair(span):
            raise BadPairs(at)
    told = [(least - wood, most - 1) for least, most in spans if least is not None]
    if hour is not None:
        told.append((hour, hour))
    if not told:
        return (None, None)
    ends = (max([least for least, _ in told]), min([most for _, most in told]))
    return ends if ends[0] <= ends[1] else None
