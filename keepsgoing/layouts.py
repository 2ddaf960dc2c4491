"""Where an image of a flow keeps what: memory, inputs, the seats of values, and cells for work."""

from keepsgoing.flows import EVENT, memory_of
from keepsgoing.kinds import is_row
from keepsgoing.seats import size_of

# Two cells in which steps keep what they need for a while.
WORK_CELLS = 2


class Layout:
    """The cells of an image; each node has the first cell of its seat, delays and beats memory."""

    def __init__(self, flow, seating):
        inputs = flow[1]
        self.nodes = flow[2]
        self.sizes = [size_of(node[1]) for node in self.nodes]
        self.beginning = []
        self.memory = {}
        for node in memory_of(flow):
            self.memory[node] = len(self.beginning)
            self.beginning.extend(_first_contents(self.nodes[node]))
        self.kept = len(self.beginning)
        self.inputs = [self._input_place(kind, event) for _, kind, event in inputs]
        places = {}
        for node, seat in enumerate(seating):
            if seat not in places:
                places[seat] = self._new_cells(self.sizes[node])
        self.seats = [places[seat] for seat in seating]
        self.work = self._new_cells(WORK_CELLS)

    def _new_cells(self, many):
        """Return the first one of so many new cells."""
        self.beginning.extend([0] * many)
        return len(self.beginning) - many

    def _input_place(self, kind, event):
        cell = self._new_cells(size_of(kind))
        here = self._new_cells(1) if event == EVENT else None
        return (cell, kind[2] if is_row(kind) else None, here)

    def shown_place(self, node):
        """Return where a node that is shown has its value, and what tells that it is there."""
        guards = tuple([(self.seats[each], value) for each, value in self.nodes[node][2]])
        kind = self.nodes[node][1]
        return (self.seats[node], kind[2] if is_row(kind) else None, guards)


def _first_contents(node):
    if node[0] == "beat":
        return [0]
    return list(node[3]) if is_row(node[1]) else [node[3]]
