"""The told family of sayings of a straight flow, and the greatest part of it that holds."""

from keepsgoing.contents import all_states
from keepsgoing.deciding import rows_of
from keepsgoing.flows import memory_of
from keepsgoing.kinds import BOOL, is_row, values_of
from keepsgoing.nodework import beginning_of
from keepsgoing.sayings import is_good, is_true
from keepsgoing.ticking import Ticking

TRUTHS = (0, 1)


def family(flow):
    """Return the told family, in the told order."""
    kinds = _delay_kinds(flow)
    found = []
    for word, wanted in (("least", ("num",)), ("most", ("num",)), ("never", ("bool", "mode"))):
        for cell, kind in kinds:
            if kind[0] in wanted:
                found.extend([(word, cell, value) for value in values_of(kind)])
    for cell, kind in kinds:
        for other, second in kinds:
            if cell < other and kind == second and not is_row(kind):
                found.append(("same", cell, other))
    bools = [cell for cell, kind in kinds if kind == BOOL]
    for cell in bools:
        for value in TRUTHS:
            for other in bools:
                if other != cell:
                    found.extend([("if", cell, value, other, told) for told in TRUTHS])
    return tuple(found)


def _delay_kinds(flow):
    """Return the cells of memory of delays, each with the kind of its content."""
    nodes = [flow[2][node] for node in memory_of(flow)]
    return [(cell, node[1]) for cell, node in enumerate(nodes) if node[0] == "delay"]


def greatest(flow):
    """Return the greatest part of the told family that holds.

    All sayings are held to begin with; then those are dropped that are false at the beginning, or
    behind a tick from a state that is good for all that are held.
    """
    rows = rows_of(flow)
    states = all_states(flow)
    ticking = Ticking(flow)
    behind = {}
    for state in states:
        behind[state] = [after for _, after in ticking.let_ticks(state, rows)]
    part = Part(family(flow), states)
    waiting = [beginning_of(flow)]
    for state in states:
        if part.is_true_in(state):
            waiting.extend(behind[state])
    while waiting:
        state = waiting.pop()
        for each in part.drop_false_at(state):
            waiting.extend(behind[each])
    return part.held_sayings()


def surely_kept(flow):
    """Tell whether no row that is let breaks the contract in a state that is good for the greatest part."""
    rows = rows_of(flow)
    part = greatest(flow)
    ticking = Ticking(flow)
    for state in all_states(flow):
        if is_good(part, state):
            if any(breaks for breaks, _ in ticking.let_ticks(state, rows)):
                return False
    return True


class Part:
    """Some sayings, of which some are still held, and in which states these are false."""

    def __init__(self, sayings, states):
        self.sayings = sayings
        self.is_held = [True] * len(sayings)
        self.false_at = {}
        self.false_in = [[] for _ in sayings]
        for state in states:
            self.false_at[state] = [at for at, saying in enumerate(sayings) if not is_true(saying, state)]
            for at in self.false_at[state]:
                self.false_in[at].append(state)
        self.left = {state: len(self.false_at[state]) for state in states}

    def is_true_in(self, state):
        """Tell whether all sayings that are held are true in a state."""
        return self.left[state] == 0

    def drop_false_at(self, state):
        """Drop the sayings that are false in a state; return the states that get good by this."""
        found = []
        for at in self.false_at[state]:
            if self.is_held[at]:
                self.is_held[at] = False
                for each in self.false_in[at]:
                    self.left[each] -= 1
                    if self.left[each] == 0:
                        found.append(each)
        return found

    def held_sayings(self):
        """Return the sayings that are held, in order."""
        return tuple([saying for saying, held in zip(self.sayings, self.is_held) if held])
