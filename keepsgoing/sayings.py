"""Sayings about what the memory contains, which show that a contract is kept."""

from keepsgoing.contents import all_states, cell_kinds, is_state
from keepsgoing.deciding import rows_of
from keepsgoing.kinds import is_row
from keepsgoing.nodework import beginning_of
from keepsgoing.shapes import is_int, is_number_of
from keepsgoing.ticking import Ticking


def judge_sayings(flow, depth, paper):
    """Tell whether a paper holds at the beginning, and goes on to hold where it held so many times."""
    rows = rows_of(flow)
    states = all_states(flow)
    kinds = cell_kinds(flow)
    if not isinstance(paper, tuple) or not all(_is_saying(kinds, saying) for saying in paper):
        return False
    good = [state for state in states if is_good(paper, state)]
    look = Steps(flow, rows, good)
    start = beginning_of(flow)
    if start not in look.good:
        return False
    level = [start]
    for _ in range(depth - 1):
        if not look.go_well(level):
            return False
        level = look.good_behind(level)
    level = good
    for _ in range(depth - 1):
        level = look.good_behind(level)
    return look.go_well(level)


class Steps:
    """The ticks by rows that are let, from the good states alone."""

    def __init__(self, flow, rows, good):
        ticking = Ticking(flow)
        self.good = {state: True for state in good}
        self.behind = {state: ticking.let_ticks(state, rows) for state in good}

    def go_well(self, states):
        """Tell whether no tick from these states breaks the contract, and all lead to good states."""
        for state in states:
            if not all(self._is_fine(breaks, after) for breaks, after in self.behind[state]):
                return False
        return True

    def _is_fine(self, breaks, after):
        return not breaks and after in self.good

    def good_behind(self, states):
        """Return the good states to which ticks from these states lead that do not break the contract."""
        found = {}
        for state in states:
            for breaks, after in self.behind[state]:
                if self._is_fine(breaks, after):
                    found[after] = True
        return list(found)


def is_good(paper, state):
    """Tell whether all sayings of a paper are true in a state."""
    return all(is_true(saying, state) for saying in paper)


def is_true(saying, state):
    """Tell whether a saying is true in a state."""
    truth = TRUTHS[saying[0]][1]
    return truth(state, saying)


def _least(state, saying):
    return state[saying[1]] >= saying[2]


def _most(state, saying):
    return state[saying[1]] <= saying[2]


def _never(state, saying):
    return state[saying[1]] != saying[2]


def _same(state, saying):
    return state[saying[1]] == state[saying[2]]


def _if(state, saying):
    _, m, v, n, w = saying
    return state[m] != v or state[n] == w


def _among(state, saying):
    return state in saying[1]


# How many parts a saying with this word has, and what tells whether it is true.
TRUTHS = {
    "least": (3, _least), "most": (3, _most), "never": (3, _never), "same": (3, _same),
    "if": (5, _if), "among": (2, _among),
}


def _is_saying(kinds, saying):
    """Tell whether this is a saying about cells of these kinds."""
    if not isinstance(saying, tuple) or not saying or saying[0] not in TRUTHS:
        return False
    word = saying[0]
    if len(saying) != TRUTHS[word][0]:
        return False
    if word == "among":
        return isinstance(saying[1], tuple) and all(is_state(kinds, state) for state in saying[1])
    if word == "same":
        _, m, n = saying
        return _is_plain_cell(kinds, m) and _is_plain_cell(kinds, n) and m < n
    pairs = list(zip(saying[1::2], saying[2::2]))
    return all(_is_plain_cell(kinds, cell) and is_int(value) for cell, value in pairs)


def _is_plain_cell(kinds, cell):
    return is_number_of(cell, len(kinds)) and not is_row(kinds[cell])
