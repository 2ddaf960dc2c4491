"""The work of several controllers on a bus, tick by tick."""

from keepsgoing.buses import wait_of
from keepsgoing.flowruns import FlowRun
from keepsgoing.kinds import zero
from keepsgoing.nodework import cells_of
from keepsgoing.parts import part_numbers, parts_of
from keepsgoing.splits import controllers, crossing, early, foreign


class BusWork:
    """The controllers of a split over a bus, with lags that are taken, and some lost frames.

    Rows and values are kept as long as some controller still needs them, and no longer.
    """

    def __init__(self, flow, split, bus, lags, losses):
        self.lags = lags
        self.losses = {loss: True for loss in losses}
        self.time = 0
        self.rows = {}
        starts = sorted([(start, number) for number, start in enumerate(bus[2])])
        self.turns = [each for _, each in starts]
        parts = parts_of(flow, split)
        self.runs = [FlowRun(part) for part in parts]
        self.coming = [foreign(flow, split, each) for each in range(len(parts))]
        self.wires = [[] for _ in parts]
        self.heard = {}
        for node in crossing(flow, split):
            wire = _wire_of(flow, split, bus, node, parts)
            self.wires[split[node]].append(wire)
            self.heard[node] = wire.heard
        self.greatest = {node: self._greatest_lag(node) for node in self.heard}
        self.shown_places = _shown_places(flow, split)

    def _greatest_lag(self, node):
        """Return the greatest lag of the controllers to which a node is foreign."""
        return max([lag for lag, coming in zip(self.lags, self.coming) if node in coming])

    def tick(self, row):
        """Do one tick of the bus with a row, and return what is shown."""
        self.rows[self.time] = row
        shown = [None] * len(self.runs)
        for controller in self.turns:
            tick = self.time - self.lags[controller]
            if tick >= 0:
                shown[controller] = self._work(controller, tick)
        self._forget()
        self.time += 1
        return tuple([None if shown[each] is None else shown[each][at]
                      for each, at in self.shown_places])

    def _work(self, controller, tick):
        """Let a controller do its tick with this number, and return what it shows."""
        run = self.runs[controller]
        coming = tuple([self.heard[node][tick] for node in self.coming[controller]])
        shown = run.tick(self.rows[tick] + coming)
        for wire in self.wires[controller]:
            wire.tell(run, tick, (self.time + wire.wait, wire.node) in self.losses)
        return shown

    def _forget(self):
        """Drop the row and the values that all controllers have used."""
        self.rows.pop(self.time - max(self.lags), None)
        for node, lag in self.greatest.items():
            self.heard[node].pop(self.time - lag, None)


class Wire:
    """A crossing node, and what the others hear of it for the ticks of the flow, by their numbers.

    place is its number in the part of its controller, and cell is its cell there if it is early,
    otherwise None. Its frame goes by so many ticks after the work as wait tells, 0 or 1.
    """

    def __init__(self, node, told, place, cell, wait):
        self.node = node
        self.place = place
        self.cell = cell
        self.wait = wait
        self.nothing = zero(told[1])
        self.last = self.nothing
        self.heard = {}
        if cell is not None:
            # Its first is known to all without a frame.
            self.last = told[3]
            self.heard[0] = told[3]

    def tell(self, run, tick, is_lost):
        """Tell the value behind a tick of the owner's run; if the frame is lost, the last one again."""
        if not is_lost:
            self.last = self._value(run)
        self.heard[tick if self.cell is None else tick + 1] = self.last

    def _value(self, run):
        if self.cell is not None:
            return run.state[self.cell]
        value = run.entries[self.place]
        return self.nothing if value is None else value


def _wire_of(flow, split, bus, node, parts):
    owner = split[node]
    place = part_numbers(flow, split, owner)[node]
    cell = cells_of(parts[owner])[place] if early(flow, node) else None
    return Wire(node, flow[2][node], place, cell, wait_of(split, bus, node))


def _shown_places(flow, split):
    """Return for each thing that is shown its controller and its place among what that one shows."""
    counts = [0] * controllers(split)
    places = []
    for _, node in flow[3] + flow[4] + flow[5]:
        places.append((split[node], counts[split[node]]))
        counts[split[node]] += 1
    return places
