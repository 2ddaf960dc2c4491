"""The plain run of a flow that is let, with knots or without."""

from keepsgoing.flows import all_hangs
from keepsgoing.flowwork import FlowWork
from keepsgoing.graphs import groups_among
from keepsgoing.nodework import beginning_of
from keepsgoing.trials import Trial


class KnotRun:
    """A run of a flow that is let; its state is the tuple of its contents."""

    def __init__(self, flow):
        self.work = FlowWork(flow, groups_among(all_hangs(flow)))
        self.contents = beginning_of(flow)

    @property
    def state(self):
        """The tuple of the contents."""
        return self.contents

    @state.setter
    def state(self, value):
        self.contents = value

    def tick(self, row):
        """Do one tick with a row, and return what is shown."""
        entries, self.contents = self.work.tick(row, self.contents)
        return self.work.shown(entries)

    def ticks(self, rows):
        """Do a tick with each row when it is asked for, and yield what is shown."""
        for row in rows:
            yield self.tick(row)

    def resume(self, state):
        """Go on from a state."""
        self.contents = state

    def trial(self):
        """Return a trial, behind which the state is what it was."""
        return Trial(self)

    def tried(self, rows):
        """Return what the ticks of the rows show; the state stays."""
        kept = self.contents
        try:
            return tuple([self.tick(row) for row in rows])
        finally:
            self.contents = kept
