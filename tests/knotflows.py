"""Random right flows with knots, and a slow look at these by the words of [20] and [27]."""

import itertools
import random

from tests.flatoracle import known_result
from tests.randomflows import FlowOracle, random_flow

BOOL = ("bool",)
LOGIC = ("not", "and", "or", "xor", "pick")


def knot_flow(seed, many, knots):
    """A flow with some knots; what is made of these stands behind them."""
    rng = random.Random(seed)
    word, inputs, nodes, _, assumes, keeps = random_flow(seed, many)
    nodes = list(nodes)
    for _ in range(knots):
        bools = [at for at, node in enumerate(nodes) if node[1] == BOOL]
        clock = nodes[rng.choice(bools)][2]
        like = [at for at in bools if nodes[at][2] == clock]
        first = len(nodes)
        own = list(range(first, first + rng.choice([1, 2, 2, 3, 4, 5])))
        test = rng.choice(like)
        for k, at in enumerate(own):
            turn = own[(k + 1) % len(own)]
            if rng.random() < 0.7:
                arms = (turn, rng.choice(like)) if k % 2 else (rng.choice(like), turn)
                nodes.append(("pick", BOOL, clock, test) + arms)
            else:
                op = rng.choice(LOGIC)
                count = {"not": 1, "pick": 3}.get(op, 2)
                nodes.append((op, BOOL, clock) + tuple(
                    rng.choice(like + own + [turn] * 4) for _ in range(count)))
        end = rng.choice(own)
        nodes.append(("delay", BOOL, clock, rng.choice([0, 1]), end, (rng.choice(own),)))
        nodes.append(("when", BOOL, clock + ((end, 1),), rng.choice(own)))
        nodes.append(("not", BOOL, clock, end))
    nodes = tuple(nodes)
    outputs = tuple((f"o{at}", at) for at in range(len(nodes)))
    return (word, inputs, nodes, outputs, assumes, keeps)


def hangs_on(node):
    """The nodes on which a node hangs, by [24]."""
    found = {each for each, _ in node[2]}
    if node[0] in ("input", "here", "const", "beat"):
        return found
    if node[0] == "merge":
        return found | {node[3]} | set(node[4])
    if node[0] == "delay":
        return found | set(node[5])
    return found | set(node[3:])


def slow_knots(flow):
    """The knots, by what each node reaches."""
    nodes = flow[2]
    reached = []
    for at in range(len(nodes)):
        seen, waiting = set(), list(hangs_on(nodes[at]))
        while waiting:
            each = waiting.pop()
            if each not in seen:
                seen.add(each)
                waiting.extend(hangs_on(nodes[each]))
        reached.append(seen)
    found = {tuple(sorted({at} | {each for each in reached[at] if at in reached[each]}))
             for at in range(len(nodes)) if at in reached[at]}
    return tuple(sorted(found))


def slow_entering(flow, knot):
    nodes = flow[2]
    return tuple(sorted({a for at in knot for a in nodes[at][3:]
                         if a not in knot and nodes[a][0] != "const"}))


def slow_settled(flow, knot, values):
    """What the nodes of a knot get, by the values of the nodes outside of it."""
    nodes = flow[2]
    known = dict.fromkeys(knot)
    while True:
        new = {at: known_result(nodes[at][0], *[known[a] if a in known else values(a)
                                                for a in nodes[at][3:]]) for at in knot}
        if new == known:
            return known
        known = new


def slow_settles(flow, knot):
    nodes = flow[2]
    enters = slow_entering(flow, knot)
    for truths in itertools.product((0, 1), repeat=len(enters)):
        told = dict(zip(enters, truths))
        got = slow_settled(flow, knot, lambda a: told[a] if a in told else nodes[a][3])
        if None in got.values():
            return (truths,)
    return ()


def slow_let(flow):
    nodes = flow[2]
    for knot in slow_knots(flow):
        if any(nodes[at][0] not in LOGIC or nodes[at][1] != BOOL for at in knot):
            return False
        if len(knot) > 12 or len(slow_entering(flow, knot)) > 8 or slow_settles(flow, knot):
            return False
    return True


class KnotOracle(FlowOracle):
    """The values of the nodes at all ticks, also of those in knots."""

    def __init__(self, flow, rows):
        super().__init__(flow, rows)
        self.flow = flow
        self.knot_of = {at: knot for knot in slow_knots(flow) for at in knot}

    def worked_out(self, node, tick):
        if node not in self.knot_of:
            return super().worked_out(node, tick)
        return slow_settled(self.flow, self.knot_of[node], lambda a: self.value(a, tick))[node]
