"""Runs of a straight flow by an order of its nodes."""

from keepsgoing.flowwork import FlowWork
from keepsgoing.nodework import beginning_of
from keepsgoing.trials import Trial


class OrderRun:
    """A run by an order that is taken; its state is the tuple of its contents."""

    def __init__(self, flow, order):
        self.work = FlowWork(flow, [(node,) for node in order])
        self.contents = beginning_of(flow)
        self.seen = ()

    @property
    def entries(self):
        """The value or None of each node at the last tick."""
        return self.seen

    @property
    def state(self):
        """The tuple of the contents."""
        return self.contents

    @state.setter
    def state(self, value):
        self.contents = value
        self.seen = ()

    def tick(self, row):
        """Do one tick with a row, and return what is shown."""
        self.seen, self.contents = self.work.tick(row, self.contents)
        return self.work.shown(self.seen)

    def ticks(self, rows):
        """Do a tick with each row when it is asked for, and yield what is shown."""
        for row in rows:
            yield self.tick(row)

    def resume(self, state):
        """Go on from a state."""
        self.contents = state
        self.seen = ()

    def trial(self):
        """Return a trial, behind which the state is what it was."""
        return Trial(self)

    def tried(self, rows):
        """Return what the ticks of the rows show; the state stays."""
        kept = self.contents
        try:
            return tuple([self.tick(row) for row in rows])
        finally:
            self.contents = kept
