"""Traces of a straight flow: what all nodes have, tick by tick, and what is wrong in them."""

from keepsgoing.flowruns import FlowRun
from keepsgoing.nodework import beginning_of, cells_of, worker_of
from keepsgoing.ops import COUNTS


def trace_of(flow, rows):
    """Return the trace of a tuple of rows."""
    run = FlowRun(flow)
    trace = []
    for row in rows:
        run.tick(row)
        trace.append(run.entries)
    return tuple(trace)


def blame(flow, rows, trace):
    """Return the first tick and the first node that is wrong then, or None."""
    look = TraceLook(flow)
    for tick, (row, entries) in enumerate(zip(rows, trace)):
        node = look.first_wrong(row, entries)
        if node is not None:
            return (tick, node)
        look.go_on(entries)
    return None


class TraceLook:
    """A look at a trace, tick by tick, with contents that come from its entries."""

    def __init__(self, flow):
        self.nodes = flow[2]
        self.places = cells_of(flow)
        self.workers = [worker_of(flow, node, self.places) for node in range(len(flow[2]))]
        self.contents = list(beginning_of(flow))

    def first_wrong(self, row, entries):
        """Return the first node that is wrong at this tick, or None."""
        for node, cell in self.places.items():
            told = self.nodes[node]
            if told[0] == "delay" and any(entries[reset] == 1 for reset in told[5]):
                self.contents[cell] = told[3]
        for node in range(len(self.nodes)):
            if not self._is_right(node, row, entries):
                return node
        return None

    def _is_right(self, node, row, entries):
        if not self._is_there(node, entries):
            return entries[node] is None
        if not _sees_all(self.nodes[node], row, entries):
            return False
        work = self.workers[node]
        return entries[node] == work(entries, row, self.contents)

    def _is_there(self, node, entries):
        return all(entries[each] == value for each, value in self.nodes[node][2])

    def go_on(self, entries):
        """Take the entries of a tick as contents for the next one."""
        for node, cell in self.places.items():
            if self._is_there(node, entries):
                told = self.nodes[node]
                if told[0] == "delay":
                    self.contents[cell] = entries[told[4]]
                else:
                    self.contents[cell] = (self.contents[cell] + 1) % told[3]


def _sees_all(node, row, entries):
    """Tell whether nothing that a node looks at is None."""
    word = node[0]
    if word == "input":
        return row[node[3]] is not None
    if word in COUNTS:
        return all(entries[each] is not None for each in node[3:])
    if word == "when":
        return entries[node[3]] is not None
    if word == "merge":
        chosen = entries[node[3]]
        return chosen is not None and entries[node[4][chosen]] is not None
    return True
