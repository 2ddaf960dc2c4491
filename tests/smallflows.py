"""Small random flows with assumes and keeps, few rows and few states, and slow looks at their runs."""

import itertools
import random

from keepsgoing.flowruns import FlowRun
from keepsgoing.flows import is_flow, is_straight
from keepsgoing.kinds import how_many, values_of
from keepsgoing.ops import result_kind

BOOL = ("bool",)
NUM = ("num", 0, 2, 1, "wrap")
LOW = ("num", -1, 1, 1, "hold")
MODE = ("mode", ("a", "b", "c"))
ROW = ("row", BOOL, 2)
KINDS = [BOOL, BOOL, NUM, LOW, MODE, ROW]
OPS = [("not", 1), ("and", 2), ("or", 2), ("xor", 2), ("eq", 2), ("add", 2), ("lt", 2), ("pick", 3), ("sub", 2),
       ("le", 2), ("row", 2), ("any", 1), ("max", 2)]
GIVEN = [(("x", BOOL, 0),), (("x", NUM, 0),), (("x", BOOL, 1),), (), (("x", BOOL, 0), ("y", BOOL, 0)),
         (("x", BOOL, 0), ("y", BOOL, 1)), (("x", LOW, 1),), (("x", BOOL, 0), ("y", BOOL, 2)), (("x", ROW, 0),)]


def small_flow(seed, most=64):
    """A right straight flow with at most so many states, whether reached or not."""
    rng = random.Random(seed)
    inputs = rng.choice(GIVEN)
    nodes = [("const", BOOL, (), rng.choice([0, 1])), ("const", NUM, (), 1)]
    for number, (_, kind, event) in enumerate(inputs):
        if event == 1:
            nodes.append(("here", BOOL, (), number))
            nodes.append(("input", kind, ((len(nodes) - 1, 1),), number))
        elif event == 0:
            nodes.append(("input", kind, (), number))
    states = 1
    for _ in range(rng.randint(8, 40)):
        node = small_node(rng, nodes, inputs)
        if node is None:
            continue
        size = how_many(node[1]) if node[0] == "delay" else node[3] if node[0] == "beat" else 1
        if states * size <= most:
            states *= size
            nodes.append(node)
    for at, node in enumerate(nodes):
        if node[0] == "delay" and rng.random() < 0.8:
            fitting = [k for k, other in enumerate(nodes) if other[1:3] == node[1:3] and k != at]
            nodes[at] = node[:4] + (rng.choice(fitting + [node[4]]),) + node[5:]
    for _ in range(4):
        like = [at for at, node in enumerate(nodes) if node[1] == BOOL and node[2] == () and at > 1]
        if len(like) > 2:
            nodes.append((rng.choice(["or", "or", "and"]), BOOL, ()) + tuple(rng.sample(like[-9:], 2)))
    at_first, at_all = first_bools(inputs, nodes)
    assumes = tuple((f"p{k}", rng.choice(at_all))
                    for k in range(rng.choice([0, 0, 1, 1, 2])))
    some = rng.choice([at_first, at_first, at_first, at_all])
    keeps = tuple((f"q{k}", rng.choice(some[-4:])) for k in range(rng.choice([0, 1, 1, 2])))
    outputs = tuple((f"o{k}", rng.randrange(len(nodes))) for k in range(3))
    flow = ("flow", inputs, tuple(nodes), outputs, assumes, keeps)
    assert is_flow(flow) and is_straight(flow)
    return flow


def first_bools(inputs, nodes):
    """The bools that are 0 for no row of the first tick, and those that are not 0 for all of them."""
    bools = [at for at, node in enumerate(nodes) if node[1] == BOOL]
    flow = ("flow", inputs, tuple(nodes), tuple((f"b{at}", at) for at in bools), (), ())
    told = [FlowRun(flow).tick(row) for row in all_rows(flow)]
    at_first = [at for k, at in enumerate(bools) if all(shown[k] != 0 for shown in told)]
    at_all = [at for k, at in enumerate(bools) if any(shown[k] != 0 for shown in told)]
    return at_first or bools, at_all or bools


def small_node(rng, nodes, inputs):
    a = rng.randrange(len(nodes))
    if rng.random() < 0.5:
        a = max(a, rng.randrange(len(nodes)))
    kind, clock = nodes[a][1:3]
    like = [at for at, node in enumerate(nodes) if node[2] == clock]
    word = rng.choice(["const", "delay", "delay", "delay", "beat", "op", "op", "op", "op", "when", "merge", "loose"])
    if word == "const":
        kind = rng.choice(KINDS)
        return ("const", kind, clock, rng.choice(values_of(kind)))
    if word == "delay":
        begun = [at for at, node in enumerate(nodes) if node[1] == BOOL and node[2] == clock[:len(node[2])]]
        resets = tuple(sorted(rng.sample(begun, min(len(begun), rng.choice([0, 0, 0, 1])))))
        return ("delay", kind, clock, rng.choice(values_of(kind)), a, resets)
    if word == "beat":
        n = rng.randrange(1, 4)
        return ("beat", BOOL, clock, n, rng.randrange(n))
    if word == "loose":
        loose = [at for at, each in enumerate(inputs) if each[2] == 2]
        return ("input", inputs[loose[0]][1], clock, loose[0]) if loose else None
    if word == "op":
        op, count = rng.choice(OPS)
        operands = tuple(rng.choice(like) for _ in range(count))
        kind = result_kind(op, tuple(nodes[x][1] for x in operands))
        return None if kind is None else (op, kind, clock) + operands
    parters = [at for at in like if nodes[at][1][0] in ("bool", "mode")]
    if not parters:
        return None
    c = rng.choice(parters)
    if word == "when":
        return ("when", kind, clock + ((c, rng.choice(values_of(nodes[c][1]))),), a) if len(clock) < 2 else None
    arms = []
    for value in values_of(nodes[c][1]):
        fitting = [at for at, node in enumerate(nodes) if node[1:3] == (kind, clock + ((c, value),))]
        if not fitting:
            return None
        arms.append(rng.choice(fitting))
    return ("merge", kind, clock, c, tuple(arms))


def all_rows(flow):
    """All rows, in order, None ahead of the values."""
    given = [([None] if event == 1 else []) + list(values_of(kind)) for _, kind, event in flow[1]]
    return list(itertools.product(*given))


def every_state(flow):
    """All states, reached or not."""
    given = [values_of(node[1]) if node[0] == "delay" else range(node[3])
             for node in flow[2] if node[0] in ("delay", "beat")]
    return list(itertools.product(*given))


class Looked:
    """What single ticks from states do: whether the row is let, what breaks, what is shown, where they lead."""

    def __init__(self, flow):
        self.flow = flow
        self.run = FlowRun(flow)
        self.start = self.run.state
        self.memo = {}
        self.first = len(flow[3])
        self.behind = len(flow[3]) + len(flow[4])

    def tick(self, state, row):
        if (state, row) not in self.memo:
            self.run.state = state
            shown = self.run.tick(row)
            is_let = 0 not in shown[self.first:self.behind]
            self.memo[state, row] = (is_let, 0 in shown[self.behind:], shown, self.run.state)
        return self.memo[state, row]

    def after(self, state, row):
        return self.tick(state, row)[3]


def reached(flow, let=True):
    """For each number of ticks the states that are reached in just so many, as long as new ones come."""
    looked = Looked(flow)
    rows = all_rows(flow)
    levels = [{looked.start}]
    seen = {looked.start}
    while True:
        new = {looked.after(s, r) for s in levels[-1] for r in rows if not let or looked.tick(s, r)[0]}
        if new <= seen:
            return levels
        levels.append(new)
        seen |= new


def first_breaking(flow, longest):
    """The shortest rows that break the contract, the first of several, by trying all; None if there are none."""
    looked = Looked(flow)
    rows = all_rows(flow)
    for many in range(1, longest + 1):
        for each in itertools.product(rows, repeat=many):
            state = looked.start
            for at, row in enumerate(each):
                is_let, breaks, _, after = looked.tick(state, row)
                if not is_let:
                    break
                if at == many - 1 and breaks:
                    return each
                state = after
    return None
