"""Random changes of small flows: pairs of flows with carry papers, and slow looks at these."""

import itertools
import random

from keepsgoing.flows import is_flow, is_straight, memory_of
from keepsgoing.improving import improved
from keepsgoing.kinds import values_of
from tests.randomflows import renumbered
from tests.smallflows import Looked, all_rows, small_flow

BOOL = ("bool",)
SWAPS = {"and": "or", "or": "and", "xor": "eq", "add": "sub", "sub": "add", "eq": "ne", "lt": "le", "le": "lt",
         "max": "min"}


def other_flow(rng, flow):
    """A flow with the same inputs and things that are shown, which is mostly a little different."""
    word, inputs, nodes, outputs, assumes, keeps = flow
    form = rng.choice(["same", "moved", "improved", "first", "first", "const", "op", "op", "a", "a", "reset"])
    if form == "same":
        return flow
    if form == "improved":
        return improved(flow)
    if form == "moved":
        order = list(range(len(nodes)))
        rng.shuffle(order)
        shown = [tuple((name, order[node]) for name, node in each) for each in flow[3:]]
        return (word, inputs, renumbered(list(nodes), order), *shown)
    nodes = list(nodes)
    for _ in range(30):
        at = rng.randrange(len(nodes))
        node = nodes[at]
        if form == "const" and node[0] == "const":
            nodes[at] = node[:3] + (rng.choice(values_of(node[1])),)
            break
        if form == "op" and node[0] in SWAPS:
            nodes[at] = (SWAPS[node[0]],) + node[1:]
            break
        if node[0] == "delay" and form == "first":
            nodes[at] = node[:3] + (rng.choice(values_of(node[1])),) + node[4:]
            break
        if node[0] == "delay" and form == "reset":
            nodes[at] = node[:5] + ((),)
            break
        if node[0] == "delay" and form == "a":
            fitting = [k for k, other in enumerate(nodes) if other[1:3] == node[1:3]]
            nodes[at] = node[:4] + (rng.choice(fitting),) + node[5:]
            break
    changed = (word, inputs, tuple(nodes), outputs, assumes, keeps)
    return changed if is_flow(changed) and is_straight(changed) else flow


def random_paper(rng, old, new):
    """A carry paper that is taken: mostly each cell takes over the content of one that fits."""
    given = [old[2][node] for node in memory_of(old)]
    paper = []
    for at, node in enumerate(new[2][each] for each in memory_of(new)):
        fitting = [cell for cell, other in enumerate(given) if form(other) == form(node)]
        if at in fitting and rng.random() < 0.8:
            paper.append(at)
        else:
            paper.append(rng.choice(fitting + [None]))
    return tuple(paper)


def form(node):
    return (node[0], node[1]) if node[0] == "delay" else (node[0], node[3])


def random_change(seed, most=20):
    rng = random.Random(seed)
    old = small_flow(seed, most)
    new = other_flow(rng, old)
    return old, new, random_paper(rng, old, new)


def deep_change(seed):
    """A change of three or four bools that work on each other, of which little is shown; or None."""
    rng = random.Random(seed)
    many = rng.choice([3, 4])
    inputs = (("x", BOOL, 0),) if rng.random() < 0.7 else (("x", BOOL, 1),)
    nodes = [("input", BOOL, (), 0)] if inputs[0][2] == 0 else [("here", BOOL, (), 0)]
    nodes += [("delay", BOOL, (), 0, 1 + at, ()) for at in range(many)]
    for _ in range(7):
        word = rng.choice(["and", "or", "xor", "not", "xor"])
        nodes.append((word, BOOL, ()) + tuple(rng.randrange(len(nodes)) for _ in range(1 if word == "not" else 2)))
    gates = range(many + 1, len(nodes))
    for at in range(1, many + 1):
        nodes[at] = nodes[at][:4] + (rng.choice(list(gates) + [0, 1 + at % many]), ())
    some = rng.sample(range(1, many + 1), 2)
    out = len(nodes)
    nodes += [("and", BOOL, (), *some), ("and", BOOL, (), out, rng.randrange(1, many + 1)), ("not", BOOL, (), out + 1),
              ("or", BOOL, (), 0, rng.randrange(1, many + 1))]
    assumes = rng.choice([(), (("p", out + 3),), (("p", rng.choice(gates)),)])
    old = ("flow", inputs, tuple(nodes), (("o", out + 1),), assumes, (("q", out + 2),))
    changed = list(nodes)
    for _ in range(rng.choice([0, 1, 1, 2])):
        at = rng.randrange(1, many + 1)
        changed[at] = changed[at][:3] + (rng.choice([0, 1]), rng.choice(list(gates) + [at]), ())
    new = old[:2] + (tuple(changed),) + old[3:]
    paper = tuple(rng.choice([at, at, at, None, rng.randrange(many)]) for at in range(many))
    assert is_flow(old) and is_flow(new)
    return old, new, paper


def slow_carried(old, new, paper, state):
    begun = Looked(new).start
    return tuple(begun[at] if cell is None else state[cell] for at, cell in enumerate(paper))


class SlowChange:
    """All that some rows do with a change at some time."""

    def __init__(self, old, new, paper):
        self.old, self.new = Looked(old), Looked(new)
        self.rows = all_rows(old)
        self.carry = lambda state: slow_carried(old, new, paper, state)

    def sees(self, rows, at):
        """Whether the last row shows something else than the old flow would have shown."""
        state = self.old.start
        for row in rows[:at]:
            state = self.old.after(state, row)
        other = self.carry(state)
        for row in rows[at:-1]:
            state, other = self.old.after(state, row), self.new.after(other, row)
        return self.old.tick(state, rows[-1])[2] != self.new.tick(other, rows[-1])[2]

    def breaks(self, rows, at):
        """Whether all rows are let and the last one breaks the contract of the new flow."""
        state = self.old.start
        for row in rows[:at]:
            is_let, _, _, state = self.old.tick(state, row)
            if not is_let:
                return False
        state = self.carry(state)
        for row in rows[at:]:
            is_let, broken, _, state = self.new.tick(state, row)
            if not is_let:
                return False
        return broken

    def first(self, test, longest):
        """The fewest rows, the first of several, then the least at; None if there are none."""
        for many in range(1, longest + 1):
            for rows in itertools.product(self.rows, repeat=many):
                for at in range(many):
                    if test(rows, at):
                        return rows, at
        return None

    def pair_levels(self):
        """The pairs that are reached by just so many rows, as long as there are new ones."""
        states = {self.old.start}
        pairs = {(s, self.carry(s)) for s in states}
        levels, seen, old_seen = [pairs], set(pairs), set(states)
        while True:
            states = {self.old.after(s, r) for s in states for r in self.rows}
            pairs = {(self.old.after(s, r), self.new.after(t, r)) for s, t in pairs for r in self.rows}
            pairs |= {(s, self.carry(s)) for s in states}
            if pairs <= seen and states <= old_seen:
                return levels
            levels.append(pairs)
            seen |= pairs
            old_seen |= states

    def state_levels(self):
        """The states of the old and of the new flow that are reached by just so many rows that are let."""
        olds = {self.old.start}
        news = {self.carry(s) for s in olds}
        levels, seen, old_seen = [(olds, news)], set(news), set(olds)
        while True:
            olds = {self.old.after(s, r) for s in olds for r in self.rows if self.old.tick(s, r)[0]}
            news = {self.new.after(s, r) for s in news for r in self.rows if self.new.tick(s, r)[0]}
            news |= {self.carry(s) for s in olds}
            if news <= seen and olds <= old_seen:
                return levels
            levels.append((olds, news))
            seen |= news
            old_seen |= olds
