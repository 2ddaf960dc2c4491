"""Random splits and buses of flows, and a slow look at these by the words of [41] to [47]."""

import itertools
import random

from keepsgoing.kinds import zero
from keepsgoing.orders import order_of
from tests.knotflows import hangs_on
from tests.randomflows import FlowOracle


def random_split(seed, flow, many):
    """A split over so many controllers; nodes near each other often belong together."""
    rng = random.Random(seed)
    nodes = flow[2]
    split = [rng.randrange(many) for _ in nodes]
    for at in range(len(nodes)):
        if rng.random() < 0.5 and at:
            split[at] = split[at - 1]
    for controller in range(many):
        if controller not in split:
            here = [at for at, node in enumerate(nodes) if node[0] != "input" and split.count(split[at]) > 1]
            split[rng.choice(here)] = controller
    for at, node in enumerate(nodes):
        if node[0] == "input" and flow[1][node[3]][2] == 1:
            split[at] = split[node[2][0][0]]
    if len(set(split)) < many or max(split) != many - 1:
        return random_split(seed + 1000, flow, many)
    return tuple(split)


def ordered_split(seed, flow, many):
    """A split that goes by an order of the nodes, so that lags are more likely; or None."""
    rng = random.Random(seed)
    order = order_of(flow)
    cuts = rng.sample(range(1, len(order)), many - 1)
    split = [0] * len(order)
    for place, node in enumerate(order):
        split[node] = sum(place >= cut for cut in cuts)
    for _ in range(3):
        for at, node in enumerate(flow[2]):
            if is_early(flow, at):
                split[at] = split[node[4]]
            if node[0] == "input" and flow[1][node[3]][2] == 1:
                split[at] = split[node[2][0][0]]
    return tuple(split) if len(set(split)) == many else None


def needs(flow, node):
    """The nodes on which a node hangs, and the a of a delay."""
    told = flow[2][node]
    return hangs_on(told) | ({told[4]} if told[0] == "delay" else set())


def slow_foreign(flow, split, controller):
    wanted = [needs(flow, node) for node in range(len(split)) if split[node] == controller]
    return tuple(a for a in range(len(split)) if split[a] != controller and any(a in each for each in wanted))


def slow_crossing(flow, split):
    wanted = [slow_foreign(flow, split, q) for q in range(max(split) + 1)]
    return tuple(a for a in range(len(split)) if any(a in each for each in wanted))


def is_early(flow, node):
    told = flow[2][node]
    return told[0] == "delay" and told[2] == () and told[5] == ()


def random_bus(seed, flow, split):
    """A bus with slots in any order; None if the crossing nodes are too many."""
    rng = random.Random(seed)
    nodes = slow_crossing(flow, split)
    slots = rng.randint(max(4, len(nodes)), 60) if len(nodes) < 60 else 0
    if not slots:
        return None
    spans = tuple(rng.randint(1, 4) for _ in range(max(split) + 1))
    starts = tuple(rng.randint(0, slots - span) for span in spans)
    taken = rng.sample(range(slots), len(nodes))
    return ("bus", slots, starts, spans, tuple(zip(nodes, taken)))


def slow_ticks(flow, split, bus, node, q):
    _, _, starts, spans, frames = bus
    slot = dict(frames)[node]
    p = split[node]
    ticks = 0
    if slot < starts[p] + spans[p]:
        ticks += 1
    if slot >= starts[q]:
        ticks += 1
    return ticks - is_early(flow, node)


def slow_lags(flow, split, bus, lags):
    """Whether lags are enough."""
    return all(lags[q] >= lags[split[a]] + slow_ticks(flow, split, bus, a, q)
               for q in range(max(split) + 1) for a in slow_foreign(flow, split, q))


def slow_rings(flow, split, bus):
    """All rings for which there are no lags, by their size and as tuples from their least one on."""
    many = max(split) + 1
    most = {}
    for q in range(many):
        for a in slow_foreign(flow, split, q):
            pair = (split[a], q)
            most[pair] = max(most.get(pair, -9), slow_ticks(flow, split, bus, a, q))
    found = []
    for size in range(2, many + 1):
        for ring in itertools.permutations(range(many), size):
            pairs = [(ring[at - 1], ring[at]) for at in range(size)]
            if ring[0] == min(ring) and all(pair in most for pair in pairs):
                if sum(most[pair] for pair in pairs) > 0:
                    found.append((size, ring))
    return sorted(found)


class BusOracle:
    """What each controller has, by the words of [45] and [47]: frames go by and are heard or lost."""

    def __init__(self, flow, split, bus, lags, rows, losses=()):
        self.flow, self.split, self.bus, self.lags = flow, split, bus, lags
        self.rows, self.losses = rows, losses
        self.views = [View(self, flow, rows, q) for q in range(max(split) + 1)]
        self.frames = {}
        for node, slot in bus[4]:
            for time in range(len(rows) + max(lags) + 4):
                told = self.told_by(node, slot, time)
                if told is not None:
                    assert (node, told) not in self.frames
                    self.frames[node, told] = time

    def told_by(self, node, slot, time):
        """The tick for which a frame tells the value, or None."""
        p = self.split[node]
        done = time - self.lags[p] - (0 if slot >= self.bus[2][p] + self.bus[3][p] else 1)
        if done < 0:
            return None
        return done + 1 if is_early(self.flow, node) else done

    def heard(self, node, tick):
        """What the others work with for a tick of the flow."""
        kind = self.flow[2][node][1]
        for t in range(tick, -1, -1):
            if t == 0 and is_early(self.flow, node):
                return self.flow[2][node][3]
            if (self.frames[node, t], node) not in self.losses:
                value = self.views[self.split[node]].value(node, t)
                return zero(kind) if value is None else value
        return zero(kind)

    def in_time(self):
        """Whether each frame goes by ahead of the work of those that need it."""
        _, _, starts, _, frames = self.bus
        slots = dict(frames)
        for q in range(max(self.split) + 1):
            for node in slow_foreign(self.flow, self.split, q):
                for tick in range(len(self.rows)):
                    if tick == 0 and is_early(self.flow, node):
                        continue
                    if (self.frames[node, tick], slots[node]) >= (tick + self.lags[q], starts[q]):
                        return False
        return True

    def shown(self, time):
        found = []
        for _, node in self.flow[3] + self.flow[4] + self.flow[5]:
            tick = time - self.lags[self.split[node]]
            found.append(None if tick < 0 else self.views[self.split[node]].value(node, tick))
        return tuple(found)


class View(FlowOracle):
    """The nodes as a controller has them: its own ones worked out, the others as they are heard."""

    def __init__(self, whole, flow, rows, controller):
        super().__init__(flow, rows)
        self.whole = whole
        self.controller = controller

    def worked_out(self, node, tick):
        if self.whole.split[node] == self.controller:
            return super().worked_out(node, tick)
        return self.whole.heard(node, tick)
