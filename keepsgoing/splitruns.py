"""Runs of a flow that is split over several controllers on a bus."""

from keepsgoing.buswork import BusWork


class SplitRun:
    """A run over a bus and with lags that are taken."""

    def __init__(self, flow, split, bus, lags):
        self.work = BusWork(flow, split, bus, lags, ())

    def tick(self, row):
        """Do one tick of the bus with a row, and return what is shown."""
        return self.work.tick(row)

    def ticks(self, rows):
        """Do a tick with each row when it is asked for, and yield what is shown."""
        for row in rows:
            yield self.tick(row)


class LossyRun:
    """A split run over a bus that loses frames."""

    def __init__(self, flow, split, bus, lags, losses):
        self.work = BusWork(flow, split, bus, lags, losses)

    def tick(self, row):
        """Do one tick of the bus with a row, and return what is shown."""
        return self.work.tick(row)

    def ticks(self, rows):
        """Do a tick with each row when it is asked for, and yield what is shown."""
        for row in rows:
            yield self.tick(row)
