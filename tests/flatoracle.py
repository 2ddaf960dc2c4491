"""A slow run of flat programs that follows the words of [18], [20] and [22] one by one.

It looks at the whole past each time, and shares only the told kinds, clocks and knots with the
package.
"""

import sys

from keepsgoing.clocksof import part_clocks
from keepsgoing.exprparts import listed
from keepsgoing.flathangs import Hanging
from keepsgoing.kinds import zero
from keepsgoing.kindsof import part_kinds
from keepsgoing.ops import result

sys.setrecursionlimit(20000)


LOGIC = ("not", "and", "or", "xor", "pick")


def inner_parts(expr):
    """The parts directly in an expr, from left to right."""
    if expr[0] in ("int", "truth", "mode", "name"):
        return ()
    if expr[0] in ("last", "when", "as"):
        return expr[1:2]
    if expr[0] in ("then", "held"):
        return expr[1:3]
    if expr[0] == "merge":
        return tuple(part for _, part in expr[2])
    return expr[3:] if expr[0] == "fresh" else expr[1:]


def known_result(word, a, b=None, c=None):
    """What an operation gets by [20], None for unknown."""
    if word == "not":
        return None if a is None else 1 - a
    if word == "pick":
        return b if a == 1 or (a is None and b == c) else c if a == 0 else None
    both = {a, b}
    if word == "and":
        return 0 if 0 in both else None if None in both else 1
    if word == "or":
        return 1 if 1 in both else None if None in both else 0
    return None if None in both else a ^ b


class FlatOracle:
    def __init__(self, flat, rows, fillings=()):
        self.flat = flat
        self.rows = rows
        self.inputs = {name: (at, event) for at, (name, _, event) in enumerate(flat[1])}
        self.at = {equation[0]: at for at, equation in enumerate(flat[2])}
        self.parts = [listed(equation[4]) for equation in flat[2]]
        self.kinds = part_kinds(flat)
        self.clocks = part_clocks(flat)
        self.memo = {}
        self.fillings = {}
        for at in range(len(flat[2])):
            for place in self.lasts(at, len(self.parts[at]) - 1):
                kind = self.kinds[at][place]
                given = fillings[len(self.fillings)] if fillings else zero(kind)
                self.fillings[at, place] = given
        self.knot_of = {}
        for knot in Hanging(flat, [clocks[-1] for clocks in self.clocks]).knots():
            for at in knot:
                self.knot_of[at] = knot

    def lasts(self, at, place):
        """The places of the lasts, outer ones ahead of inner ones, from left to right."""
        part, inner = self.parts[at][place]
        found = [place] if part[0] == "last" else []
        for each in inner:
            found += self.lasts(at, each)
        return found

    def shown(self):
        names = self.flat[3] + self.flat[4] + self.flat[5]
        return [tuple(self.name(x, t) for x in names) for t in range(len(self.rows))]

    def name(self, x, t):
        if x in self.at:
            at = self.at[x]
            if at in self.knot_of:
                return self.settled(self.knot_of[at], t)[at]
            return self.part(at, len(self.parts[at]) - 1, t)
        if x.endswith("@here"):
            return 0 if self.rows[t][self.inputs[x[:-5]][0]] is None else 1
        number, event = self.inputs[x]
        if event not in (0, 1) and not self.there(self.input_clock(x), t):
            return None
        return self.rows[t][number]

    def input_clock(self, x):
        while x not in self.at:
            event = self.inputs[x][1]
            if event == 0:
                return ()
            x = event
        return self.clocks[self.at[x]][-1]

    def settled(self, knot, t):
        """What the names of a knot get at a tick, by the numbers of their equations."""
        key = ("knot", knot, t)
        if key not in self.memo:
            known = dict.fromkeys(knot)
            if self.there(self.clocks[knot[0]][-1], t):
                firsts = {}
                while True:
                    new = {at: self.known(at, len(self.parts[at]) - 1, known, t, firsts)
                           for at in knot}
                    if new == known:
                        break
                    known = new
            self.memo[key] = known
        return self.memo[key]

    def known(self, at, place, known, t, firsts):
        part, inner = self.parts[at][place]
        if self.is_free(part, {self.flat[2][each][0] for each in known}):
            if part[0] == "truth":
                return part[1]
            # The one at the first place counts.
            where = firsts.setdefault(part, (at, place))
            return self.part(*where, t)
        if part[0] == "name":
            return known[self.at[part[1]]]
        assert part[0] in LOGIC
        return known_result(part[0], *[self.known(at, each, known, t, firsts) for each in inner])

    def is_free(self, part, names, within=False):
        """Whether a part makes its name hang on none of these names."""
        word = part[0]
        if word in ("last", "then", "held") and set(part[-1]) & names:
            return False
        own = {part[1]} if word in ("name", "merge") else set()
        layer = part[2] if word == "when" else part[3] if word == "held" else ("every",)
        own |= {layer[1]} if layer[0] == "is" else set()
        if own & names and not within:
            return False
        return all(self.is_free(each, names, within or word == "last") for each in inner_parts(part))

    def there(self, clock, t):
        key = (clock, t)
        if key not in self.memo:
            self.memo[key] = self._there(clock, t)
        return self.memo[key]

    def _there(self, clock, t):
        if not clock:
            return True
        if not self.there(clock[:-1], t):
            return False
        layer = clock[-1]
        if layer[0] == "is":
            return self.name(layer[1], t) == layer[2][-1]
        earlier = sum(1 for s in range(t) if self.there(clock[:-1], s))
        return earlier >= layer[2] and (earlier - layer[2]) % layer[1] == 0

    def part(self, at, place, t):
        key = (at, place, t)
        if key not in self.memo:
            there = self.there(self.clocks[at][place], t)
            self.memo[key] = self._part(at, place, t) if there else None
        return self.memo[key]

    def _begins(self, at, place, t, resets):
        """Whether `then` would be its first operand."""
        clock = self.clocks[at][place]
        for s in range(t, -1, -1):
            if s < t and self.there(clock, s):
                return False
            if any(self.name(r, s) == 1 for r in resets):
                return True
        return True

    def _part(self, at, place, t):
        part, inner = self.parts[at][place]
        word = part[0]
        if word in ("int", "truth", "mode"):
            return part[-1]
        if word == "name":
            return self.name(part[1], t)
        if word == "when":
            return self.part(at, inner[0], t)
        if word == "merge":
            return self.part(at, inner[self.name(part[1], t)], t)
        if word == "weave":
            found = [self.part(at, i, t) for i in inner if self.part(at, i, t) is not None]
            assert len(found) == 1
            return found[0]
        if word in ("last", "then", "held", "fresh"):
            return getattr(self, "_" + word)(at, place, t, part, inner)
        kinds = tuple(self.kinds[at][i] for i in inner)
        values = tuple(self.part(at, i, t) for i in inner)
        return result(word, kinds, values, self.kinds[at][place])

    def _last(self, at, place, t, part, inner):
        if self._begins(at, place, t, part[2]):
            return self.fillings[at, place]
        clock = self.clocks[at][place]
        before = max(s for s in range(t) if self.there(clock, s))
        return self.part(at, inner[0], before)

    def _then(self, at, place, t, part, inner):
        first = self._begins(at, place, t, part[3])
        return self.part(at, inner[0 if first else 1], t)

    def _held(self, at, place, t, part, inner):
        for s in range(t, -1, -1):
            value = self.part(at, inner[1], s)
            if value is not None:
                return value
            if any(self.name(r, s) == 1 for r in part[4]):
                break
        return self.part(at, inner[0], t)

    def _fresh(self, at, place, t, part, inner):
        for s in range(t, max(t - part[2], 0) - 1, -1):
            value = self.name(part[1], s)
            if value is not None:
                return value
        return self.part(at, inner[0], t)
