"""The plain run of a straight flow."""

from keepsgoing.flows import all_hangs
from keepsgoing.graphs import order_among
from keepsgoing.nodework import beginning_of, cells_of, is_there, worker_of
from keepsgoing.trials import Trial


class FlowRun:
    """A run of a straight flow; its state is the tuple of its contents."""

    def __init__(self, flow):
        self.flow = flow
        self.places = cells_of(flow)
        self.works = [
            (number, flow[2][number], worker_of(flow, number, self.places))
            for number in order_among(all_hangs(flow))
        ]
        self.contents = beginning_of(flow)
        self.seen = ()

    @property
    def entries(self):
        """The value or None of each node at the last tick."""
        return self.seen

    @property
    def state(self):
        """The tuple of the contents."""
        return self.contents

    @state.setter
    def state(self, value):
        self.contents = value
        self.seen = ()

    def tick(self, row):
        """Do one tick with a row, and return what is shown."""
        contents = list(self.contents)
        entries = [None] * len(self.flow[2])
        for number, node, work in self.works:
            if node[0] == "delay" and any(entries[reset] == 1 for reset in node[5]):
                contents[self.places[number]] = node[3]
            if is_there(node, entries):
                entries[number] = work(entries, row, contents)
        self._keep(entries, contents)
        self.contents = tuple(contents)
        self.seen = tuple(entries)
        return self._shown()

    def _keep(self, entries, contents):
        for number in self.places:
            if entries[number] is not None:
                node = self.flow[2][number]
                cell = self.places[number]
                if node[0] == "delay":
                    contents[cell] = entries[node[4]]
                else:
                    contents[cell] = (contents[cell] + 1) % node[3]

    def _shown(self):
        _, _, _, outputs, assumes, keeps = self.flow
        return tuple([self.seen[node] for _, node in outputs + assumes + keeps])

    def ticks(self, rows):
        """Do a tick with each row when it is asked for, and yield what is shown."""
        for row in rows:
            yield self.tick(row)

    def resume(self, state):
        """Go on from a state."""
        self.contents = state
        self.seen = ()

    def trial(self):
        """Return a trial, behind which the state is what it was."""
        return Trial(self)

    def tried(self, rows):
        """Return what the ticks of the rows show; the state stays."""
        kept = self.contents
        try:
            return tuple([self.tick(row) for row in rows])
        finally:
            self.contents = kept
