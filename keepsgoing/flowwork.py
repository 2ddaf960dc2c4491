"""The nodes of a flow, worked out tick by tick."""

from keepsgoing.knots import entering, knot_codes
from keepsgoing.logic import LOGIC, settled_values
from keepsgoing.nodework import cells_of, worker_of


class FlowWork:
    """The work of the ticks of a flow: its nodes in groups, each behind those it hangs on.

    A group is a node, or a knot that is let.
    """

    def __init__(self, flow, groups):
        _, _, nodes, outputs, assumes, keeps = flow
        self.nodes = nodes
        self.shown_nodes = [node for _, node in outputs + assumes + keeps]
        self.places = cells_of(flow)
        self.plan = [self._step(flow, group) for group in groups]
        self.stores = [(node, cell, self._store(node)) for node, cell in self.places.items()]

    def _step(self, flow, group):
        """Return the first node of a group, what its clock asks for, and what is done for it."""
        first = group[0]
        node = self.nodes[first]
        gate, want = node[2][-1] if node[2] else (None, None)
        if len(group) > 1 or node[0] in LOGIC and first in node[3:]:
            return (first, gate, want, None, _knot_worker(flow, group))
        empty = _emptier(node, self.places.get(first))
        return (first, gate, want, empty, worker_of(flow, first, self.places))

    def _store(self, node):
        """Return the node that a delay takes, or None, and the n of a beat, or None."""
        told = self.nodes[node]
        return (told[4], None) if told[0] == "delay" else (None, told[3])

    def tick(self, row, contents):
        """Return the entries of a tick with a row and contents, and the contents behind it."""
        contents = list(contents)
        entries = [None] * len(self.nodes)
        for node, gate, want, empty, work in self.plan:
            if empty is not None:
                empty(entries, contents)
            # A node has a value only if the pairs ahead of it in a clock hold.
            if gate is None or entries[gate] == want:
                entries[node] = work(entries, row, contents)
        for node, cell, (taken, many) in self.stores:
            if entries[node] is not None:
                contents[cell] = (contents[cell] + 1) % many if taken is None else entries[taken]
        return tuple(entries), tuple(contents)

    def shown(self, entries):
        """Return what is shown by the entries of a tick."""
        return tuple([entries[node] for node in self.shown_nodes])


def _emptier(node, cell):
    """Return a function that empties a delay by its resets; None if it has none."""
    if node[0] != "delay" or node[5] == ():
        return None
    _, _, _, first, _, resets = node

    def empty(entries, contents):
        for reset in resets:
            if entries[reset] == 1:
                contents[cell] = first
    return empty


def _knot_worker(flow, knot):
    """Return a function that settles a knot, and tells the value of its first node."""
    enters = entering(flow, knot)
    codes = knot_codes(flow, knot)

    def settle_all(entries, row, contents):
        values = settled_values(codes, [entries[each] for each in enters])
        for node, value in zip(knot, values):
            entries[node] = value
        return values[0]
    return settle_all
