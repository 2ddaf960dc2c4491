"""Deciding whether a straight flow keeps its contract."""

from keepsgoing.contents import cell_kinds, is_state
from keepsgoing.errors import TooMany
from keepsgoing.flows import EVENT
from keepsgoing.kinds import how_many, values_of
from keepsgoing.nodework import beginning_of
from keepsgoing.shapes import is_ascending
from keepsgoing.ticking import Ticking, rows_to

MOST_ROWS = 16


def rows_of(flow):
    """Return all rows that a flow can be given, in order."""
    many = 1
    for _, kind, event in flow[1]:
        many = many * (how_many(kind) + 1 if event == EVENT else how_many(kind))
    if many > MOST_ROWS:
        raise TooMany("rows")
    rows = [()]
    for _, kind, event in flow[1]:
        given = values_of(kind)
        if event == EVENT:
            given = (None,) + given
        rows = [row + (entry,) for row in rows for entry in given]
    return tuple(rows)


def decided(flow, most):
    """Return the first of the shortest rows that break the contract, or all states that are reached."""
    rows = rows_of(flow)
    search = Search(flow, rows)
    while search.level:
        if len(search.came) > most:
            raise TooMany("states")
        broken = search.go_on(most)
        if broken is not None:
            return ("broken", broken)
    return ("kept", tuple(sorted(search.came)))


class Search:
    """The states that are reached from the beginning, level by level.

    came has for each state the one ahead of it and the row that leads here. The states of a level
    are in the order of the first rows that lead to them.
    """

    def __init__(self, flow, rows):
        self.ticking = Ticking(flow)
        self.rows = rows
        start = beginning_of(flow)
        self.came = {start: None}
        self.level = [start]

    def go_on(self, most):
        """Go on to the next level; return the rows that break the contract if some do.

        More than one state above most need not be found: then there are too many already.
        """
        level = []
        for state in self.level:
            for row in self.rows:
                told = self.ticking.let_tick(state, row)
                if told is None:
                    continue
                breaks, after = told
                if breaks:
                    return rows_to(self.came, state) + (row,)
                if after not in self.came and len(self.came) <= most:
                    self.came[after] = (state, row)
                    level.append(after)
        self.level = level
        return None


def judge_closed(flow, states):
    """Tell whether a set of states is closed, so that the contract is kept."""
    rows = rows_of(flow)
    kinds = cell_kinds(flow)
    if not isinstance(states, tuple) or not all(is_state(kinds, state) for state in states):
        return False
    held = {state: True for state in states}
    if not is_ascending(states) or beginning_of(flow) not in held:
        return False
    ticking = Ticking(flow)
    for state in states:
        for row in rows:
            told = ticking.let_tick(state, row)
            if told is not None and (told[0] or told[1] not in held):
                return False
    return True
