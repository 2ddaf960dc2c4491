"""Healing: whether and when a straight flow forgets a content that was exchanged."""

from keepsgoing.contents import cell_kinds
from keepsgoing.deciding import rows_of
from keepsgoing.errors import TooMany
from keepsgoing.graphs import groups_among
from keepsgoing.kinds import has, how_many, values_of
from keepsgoing.nodework import beginning_of
from keepsgoing.shapes import is_number_of, is_tuple_of
from keepsgoing.ticking import Ticking, rows_to

MOST_VALUES = 64


def healing(flow, most):
    """Return within how many ticks all flips are healed, or a paper for one that never is."""
    rows = rows_of(flow)
    kinds = cell_kinds(flow)
    if any(how_many(kind) > MOST_VALUES for kind in kinds):
        raise TooMany("values")
    walks = Walks(flow, rows)
    walks.reach_all(most)
    walks.flip_all(kinds, most)
    leads = walks.pair_leads()
    depths = [0] * len(leads)
    for group in groups_among(leads):
        first = group[0]
        if len(group) > 1 or first in leads[first]:
            return walks.never(first)
        depths[first] = 1 + max([depths[each] for each in leads[first]], default=0)
    return ("within", max(depths, default=0))


class Walks:
    """The states that are reached, and the unequal pairs of states that are reached behind flips.

    came has for each state the one ahead of it and the row between them, paired the same for each
    pair; a pair directly behind a flip has the cell and its new content there.
    """

    def __init__(self, flow, rows):
        self.ticking = Ticking(flow)
        self.rows = rows
        self.start = beginning_of(flow)
        self.came = {self.start: None}
        self.paired = {}
        self.nexts = {}

    def _behind(self, state):
        """Return the states to which the rows lead from a state."""
        if state not in self.nexts:
            self.nexts[state] = [self.ticking.after(state, row) for row in self.rows]
        return self.nexts[state]

    def reach_all(self, most):
        """Find all states that are reached from the beginning."""
        waiting = [self.start]
        while waiting:
            if len(self.came) > most:
                raise TooMany("states")
            state = waiting.pop()
            for row, after in zip(self.rows, self._behind(state)):
                if after not in self.came:
                    self.came[after] = (state, row)
                    waiting.append(after)

    def flip_all(self, kinds, most):
        """Find all unequal pairs that are reached behind flips."""
        waiting = []
        for state in self.came:
            for cell, kind in enumerate(kinds):
                for value in values_of(kind):
                    if value != state[cell]:
                        pair = (state, state[:cell] + (value,) + state[cell + 1:])
                        self.paired[pair] = (None, (cell, value))
                        waiting.append(pair)
            _check_pairs(self.paired, most)
        while waiting:
            _check_pairs(self.paired, most)
            pair = waiting.pop()
            for row, after in self.pairs_behind(pair):
                if after not in self.paired:
                    self.paired[after] = (pair, row)
                    waiting.append(after)

    def pairs_behind(self, pair):
        """Return the rows that do not heal a pair, each with the pair to which it leads."""
        state, other = pair
        found = []
        for row, one, two in zip(self.rows, self._behind(state), self._behind(other)):
            if one != two:
                found.append((row, (one, two)))
        return found

    def pair_leads(self):
        """Return for each pair, in their order, the numbers of those to which it leads."""
        numbers = {pair: number for number, pair in enumerate(self.paired)}
        return [sorted(set([numbers[after] for _, after in self.pairs_behind(pair)]))
                for pair in self.paired]

    def never(self, number):
        """Return the paper for a pair with this number, from which rows lead back to it."""
        pair = list(self.paired)[number]
        turn = self._ring_rows(pair)
        on = []
        ahead, told = self.paired[pair]
        while ahead is not None:
            on.append(told)
            pair = ahead
            ahead, told = self.paired[pair]
        on.reverse()
        cell, value = told
        return ("never", rows_to(self.came, pair[0]), cell, value, tuple(on), turn)

    def _ring_rows(self, start):
        """Return rows that lead from a pair back to itself."""
        ways = {start: ()}
        level = [start]
        while level:
            behind = []
            for pair in level:
                for row, after in self.pairs_behind(pair):
                    if after == start:
                        return ways[pair] + (row,)
                    if after not in ways:
                        ways[after] = ways[pair] + (row,)
                        behind.append(after)
            level = behind
        return ()


def _check_pairs(paired, most):
    if len(paired) > most:
        raise TooMany("pairs")


def judge_never(flow, answer):
    """Tell whether an answer shows a flip that is never healed."""
    rows = rows_of(flow)
    if not is_tuple_of(answer, 6) or answer[0] != "never":
        return False
    _, lead, cell, value, on, turn = answer
    for given in (lead, on, turn):
        if not isinstance(given, tuple) or not all(row in rows for row in given):
            return False
    kinds = cell_kinds(flow)
    if turn == () or not is_number_of(cell, len(kinds)) or not has(kinds[cell], value):
        return False
    ticking = Ticking(flow)
    state = _led(ticking, beginning_of(flow), lead)
    # With the content that is there already, both states are equal at all times.
    other = _led(ticking, state[:cell] + (value,) + state[cell + 1:], on)
    state = _led(ticking, state, on)
    return state != other and state == _led(ticking, state, turn) and other == _led(ticking, other, turn)


def _led(ticking, state, rows):
    """Return the state to which rows lead from a state."""
    for row in rows:
        state = ticking.after(state, row)
    return state
