"""Orders of fires counted and listed.

They are built lot by lot, in each of which one room at least is lit. A STATE is a tuple, ascending, of what each
room tells that burns and has further rooms beside it that are cold: (room, left, others, leaves). Left is for how
many lots more it burns, or for as many as can be wanted; others are the cold rooms that have rooms behind them,
leaves those that have none. Leaves of one room can stand for one another: they are lit as they stand.
"""

from itertools import combinations
from math import comb

from hearths.houses import need_room
from hearths.orders import lots_of
from hearths.toursfrom import branches_behind, sizes_behind
from hearths.ways import ahead_from
from hearths.woods import need_woods


class Lighting:
    """How a house with woods is lit from a first room, lot by lot, with so many rooms in a lot at the most."""

    def __init__(self, house, woods, first, most):
        ahead = ahead_from(house, first)
        self.branches = branches_behind(ahead)
        self.sizes = sizes_behind(ahead)
        self.wood_of = woods
        self.most = most

    def cold_behind(self, state):
        """How many rooms are cold."""
        return sum([self.sizes[far] for _, _, others, leaves in state for far in others + leaves])

    def state_of(self, rows):
        """The state of rooms, their hours left, others and leaves: no more lots can be wanted than rooms are cold."""
        state = [row for row in rows if row[2] or row[3]]
        cold = self.cold_behind(state)
        return tuple(sorted([(room, min(left, cold), others, leaves) for room, left, others, leaves in state]))

    def new_row(self, room):
        others = tuple([far for far in self.branches[room] if self.branches[far]])
        leaves = tuple([far for far in self.branches[room] if not self.branches[far]])
        return (room, self.wood_of[room], others, leaves)

    def next_states(self, state):
        """The list of the triples of the next lots, the states behind them, and for how many lots each stands."""
        lots = [((), 1)]
        for row in state:
            lots = [(lit + more, ways * many) for lit, ways in lots for more, many in _lit_by(row)
                    if len(lit) + len(more) <= self.most]
        return [(lit, self.state_behind(state, lit), ways) for lit, ways in lots if lit]

    def state_behind(self, state, lit):
        rows = [self.new_row(room) for room in lit]
        for room, left, others, leaves in state:
            rows.append((room, left - 1, tuple([far for far in others if far not in lit]),
                         tuple([far for far in leaves if far not in lit])))
        return self.state_of(rows)


def _lit_by(row):
    """The list of the pairs of what can be lit from a room in a lot, and for how many lots this stands."""
    _, left, others, leaves = row
    if left == 1:
        return [(others + leaves, 1)]
    lit = []
    for many in range(len(others) + 1):
        for some in combinations(others, many):
            for number in range(len(leaves) + 1):
                lit.append((some + leaves[:number], comb(len(leaves), number)))
    return lit


def _count(house, woods, first):
    """With each lot fewer rooms are cold: so states are gone through by how many are."""
    lighting = Lighting(house, woods, first, len(house))
    counts = [{} for _ in range(len(house))]
    counts[-1][lighting.state_of([lighting.new_row(first)])] = 1
    for cold in range(len(house) - 1, 0, -1):
        for state, many in list(counts[cold].items()):
            for _, behind, ways in lighting.next_states(state):
                further = counts[lighting.cold_behind(behind)]
                further[behind] = further.get(behind, 0) + many * ways
    return counts[0][()]


def count_orders_from(house, woods, first):
    need_woods(house, woods)
    need_room(house, first)
    return _count(house, woods, first)


def count_orders(house, woods):
    need_woods(house, woods)
    return sum([_count(house, woods, first) for first in house.rooms()])


def _with_hour(hours, room, hour):
    more = dict(hours)
    more[room] = hour
    return more


def orders_from(house, woods, first):
    """A fire has its order for hours just if at each hour up to its last one some room is lit."""
    need_woods(house, woods)
    need_room(house, first)
    rows = [{first: 0}]
    for room, before in ahead_from(house, first).items():
        if before is not None:
            most = min(woods[before], len(house) - 1)
            rows = [_with_hour(row, room, row[before] + step) for row in rows for step in range(1, most + 1)]
    whole = [row for row in rows if len(set(list(row.values()))) == max(list(row.values())) + 1]
    return sorted([lots_of(row) for row in whole])
