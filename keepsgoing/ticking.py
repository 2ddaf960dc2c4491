"""Single ticks of a straight flow, from any state."""

from keepsgoing.flows import all_hangs
from keepsgoing.flowwork import FlowWork
from keepsgoing.graphs import groups_among


class Ticking:
    """The ticks of a straight flow: what they show, and where they lead."""

    def __init__(self, flow):
        self.work = FlowWork(flow, groups_among(all_hangs(flow)))
        self.assumed = [node for _, node in flow[4]]
        self.promised = [node for _, node in flow[5]]

    def shown_and_after(self, state, row):
        """Return what the tick with a row shows, and the state to which it leads."""
        entries, after = self.work.tick(row, state)
        return (self.work.shown(entries), after)

    def after(self, state, row):
        """Return the state to which the tick with a row leads."""
        return self.work.tick(row, state)[1]

    def let_tick(self, state, row):
        """Return None if the row is not let in the state.

        Otherwise return whether the tick breaks the contract, and the state to which it leads.
        """
        entries, after = self.work.tick(row, state)
        if any(entries[node] == 0 for node in self.assumed):
            return None
        return (any(entries[node] == 0 for node in self.promised), after)

    def let_ticks(self, state, rows):
        """Return what let_tick tells for those of the rows that are let in the state."""
        told = [self.let_tick(state, row) for row in rows]
        return [each for each in told if each is not None]


def rows_to(came, state):
    """Return the rows that lead to a state, where came has the one ahead of it and the row, or None."""
    rows = []
    while came[state] is not None:
        state, row = came[state]
        rows.append(row)
    rows.reverse()
    return tuple(rows)
