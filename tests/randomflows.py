"""Random right flows without knots, and a slow run of them that looks at the whole past."""

import random

from keepsgoing.kinds import values_of
from keepsgoing.ops import result, result_kind

BOOL = ("bool",)
KINDS = [BOOL, ("num", -2, 3, 2, "hold"), ("num", 0, 4, 1, "wrap"), ("mode", ("a", "b", "c")),
         ("row", BOOL, 2)]
INPUTS = (("x", BOOL, 0), ("y", KINDS[1], 0), ("e", KINDS[2], 1), ("f", BOOL, 1),
          ("l", BOOL, 2), ("m", KINDS[3], 2))
OPS = [("not", 1), ("and", 2), ("or", 2), ("xor", 2), ("eq", 2), ("add", 2), ("mul", 2), ("lt", 2),
       ("pick", 3), ("row", 2), ("vote", 3), ("any", 1)]


def random_flow(seed, many):
    rng = random.Random(seed)
    nodes = [("input", BOOL, (), 0), ("input", KINDS[1], (), 1), ("here", BOOL, (), 2),
             ("here", BOOL, (), 3), ("input", KINDS[2], ((2, 1),), 2), ("input", BOOL, ((3, 1),), 3)]
    while len(nodes) < many:
        node = random_node(rng, nodes)
        if node is not None:
            nodes.append(node)
    nodes = [with_far_delay(rng, nodes, node) for node in nodes]
    order = list(range(many))
    rng.shuffle(order)
    nodes = renumbered(nodes, order)
    bools = [at for at in range(many) if nodes[at][1] == BOOL]
    outputs = tuple((f"o{at}", at) for at in range(many))
    return ("flow", INPUTS, nodes, outputs, (("p", rng.choice(bools)),),
            (("q", rng.choice(bools)), ("r", rng.choice(bools))))


def random_node(rng, nodes):
    a = rng.randrange(len(nodes))
    kind, clock = nodes[a][1:3]
    like = [at for at, node in enumerate(nodes) if node[2] == clock]
    word = rng.choice(["const", "delay", "beat", "op", "op", "op", "op", "when", "merge", "loose"])
    if word == "const":
        kind = rng.choice(KINDS)
        return ("const", kind, clock, rng.choice(values_of(kind)))
    if word == "delay":
        begun = [at for at, node in enumerate(nodes)
                 if node[1] == BOOL and node[2] == clock[:len(node[2])]]
        resets = tuple(sorted(rng.sample(begun, min(len(begun), rng.choice([0, 0, 1, 2])))))
        return ("delay", kind, clock, rng.choice(values_of(kind)), a, resets)
    if word == "beat":
        n = rng.randrange(1, 5)
        return ("beat", BOOL, clock, n, rng.randrange(n))
    if word == "loose":
        return rng.choice([("input", BOOL, clock, 4), ("input", KINDS[3], clock, 5)])
    if word == "op":
        op, count = rng.choice(OPS)
        operands = tuple(rng.choice(like) for _ in range(count))
        kind = result_kind(op, tuple(nodes[x][1] for x in operands))
        return None if kind is None else (op, kind, clock) + operands
    parters = [at for at in like if nodes[at][1][0] in ("bool", "mode")]
    if not parters:
        return None
    c = rng.choice(parters)
    if word == "when":
        pair = (c, rng.choice(values_of(nodes[c][1])))
        return ("when", kind, clock + (pair,), a) if len(clock) < 3 else None
    arms = []
    for value in values_of(nodes[c][1]):
        fitting = [at for at, node in enumerate(nodes)
                   if node[1] == kind and node[2] == clock + ((c, value),)]
        if not fitting:
            return None
        arms.append(rng.choice(fitting))
    return ("merge", kind, clock, c, tuple(arms))


def with_far_delay(rng, nodes, node):
    """A delay can take any node of its kind and clock, also a later one."""
    if node[0] != "delay" or rng.random() < 0.3:
        return node
    fitting = [at for at, other in enumerate(nodes) if other[1:3] == node[1:3]]
    return node[:4] + (rng.choice(fitting),) + node[5:]


def renumbered(nodes, order):
    """The node number k gets the number order[k]."""
    found = [None] * len(nodes)
    for at, node in enumerate(nodes):
        word, kind, clock = node[:3]
        rest = node[3:]
        if word == "when":
            rest = (order[rest[0]],)
        elif word == "merge":
            rest = (order[rest[0]], tuple(order[arm] for arm in rest[1]))
        elif word == "delay":
            rest = (rest[0], order[rest[1]], tuple(sorted(order[r] for r in rest[2])))
        elif word not in ("input", "here", "const", "beat"):
            rest = tuple(order[a] for a in rest)
        found[order[at]] = (word, kind, tuple((order[c], v) for c, v in clock)) + rest
    return tuple(found)


def random_rows(seed, many):
    rng = random.Random(seed)
    rows = []
    for _ in range(many):
        row = [rng.choice(values_of(kind)) for _, kind, _ in INPUTS]
        row[2] = rng.choice([None, row[2]])
        row[3] = rng.choice([None, row[3]])
        rows.append(tuple(row))
    return rows


class FlowOracle:
    """The values of the nodes at all ticks, by the words of [25]."""

    def __init__(self, flow, rows):
        self.nodes = flow[2]
        self.rows = rows
        self.memo = {}

    def value(self, node, tick):
        if (node, tick) not in self.memo:
            there = all(self.value(c, tick) == v for c, v in self.nodes[node][2])
            self.memo[node, tick] = self.worked_out(node, tick) if there else None
        return self.memo[node, tick]

    def content(self, node, tick):
        """What a delay contains ahead of a tick, or how often a beat was there."""
        told = self.nodes[node]
        if told[0] == "beat":
            return sum(self.value(node, t) is not None for t in range(tick)) % told[3]
        content = told[3]
        for t in range(tick):
            if any(self.value(reset, t) == 1 for reset in told[5]):
                content = told[3]
            if self.value(told[4], t) is not None:
                content = self.value(told[4], t)
        return content

    def worked_out(self, node, tick):
        word, kind, clock, *rest = self.nodes[node]
        if word == "input":
            return self.rows[tick][rest[0]]
        if word == "here":
            return int(self.rows[tick][rest[0]] is not None)
        if word == "const":
            return rest[0]
        if word == "when":
            return self.value(rest[0], tick)
        if word == "merge":
            return self.value(rest[1][self.value(rest[0], tick)], tick)
        if word == "beat":
            return int(self.content(node, tick) == rest[1])
        if word == "delay":
            if any(self.value(reset, tick) == 1 for reset in rest[2]):
                return rest[0]
            return self.content(node, tick)
        kinds = tuple(self.nodes[a][1] for a in rest)
        return result(word, kinds, tuple(self.value(a, tick) for a in rest), kind)

    def entries(self, tick):
        return tuple(self.value(node, tick) for node in range(len(self.nodes)))

    def state(self, tick):
        """The contents behind so many ticks."""
        return tuple(self.content(node, tick) for node, told in enumerate(self.nodes)
                     if told[0] in ("delay", "beat"))
