"""A slow run of flat programs that follows the words of [18] and [22] one by one.

It looks at the whole past each time, and shares only the told kinds and clocks with the package.
"""

import sys

from keepsgoing.clocksof import part_clocks
from keepsgoing.exprparts import listed
from keepsgoing.kinds import zero
from keepsgoing.kindsof import part_kinds
from keepsgoing.ops import result

sys.setrecursionlimit(20000)


class FlatOracle:
    def __init__(self, flat, rows):
        self.flat = flat
        self.rows = rows
        self.inputs = {name: (at, event) for at, (name, _, event) in enumerate(flat[1])}
        self.at = {equation[0]: at for at, equation in enumerate(flat[2])}
        self.parts = [listed(equation[4]) for equation in flat[2]]
        self.kinds = part_kinds(flat)
        self.clocks = part_clocks(flat)
        self.memo = {}

    def shown(self):
        names = self.flat[3] + self.flat[4] + self.flat[5]
        return [tuple(self.name(x, t) for x in names) for t in range(len(self.rows))]

    def name(self, x, t):
        if x in self.at:
            at = self.at[x]
            return self.part(at, len(self.parts[at]) - 1, t)
        if x.endswith("@here"):
            return 0 if self.rows[t][self.inputs[x[:-5]][0]] is None else 1
        return self.rows[t][self.inputs[x][0]]

    def there(self, clock, t):
        key = (clock, t)
        if key not in self.memo:
            self.memo[key] = self._there(clock, t)
        return self.memo[key]

    def _there(self, clock, t):
        if not clock:
            return True
        if not self.there(clock[:-1], t):
            return False
        layer = clock[-1]
        if layer[0] == "is":
            return self.name(layer[1], t) == layer[2][-1]
        earlier = sum(1 for s in range(t) if self.there(clock[:-1], s))
        return earlier >= layer[2] and (earlier - layer[2]) % layer[1] == 0

    def part(self, at, place, t):
        key = (at, place, t)
        if key not in self.memo:
            there = self.there(self.clocks[at][place], t)
            self.memo[key] = self._part(at, place, t) if there else None
        return self.memo[key]

    def _begins(self, at, place, t, resets):
        """Whether `then` would be its first operand."""
        clock = self.clocks[at][place]
        for s in range(t, -1, -1):
            if s < t and self.there(clock, s):
                return False
            if any(self.name(r, s) == 1 for r in resets):
                return True
        return True

    def _part(self, at, place, t):
        part, inner = self.parts[at][place]
        word = part[0]
        if word in ("int", "truth", "mode"):
            return part[-1]
        if word == "name":
            return self.name(part[1], t)
        if word == "when":
            return self.part(at, inner[0], t)
        if word == "merge":
            return self.part(at, inner[self.name(part[1], t)], t)
        if word == "weave":
            found = [self.part(at, i, t) for i in inner if self.part(at, i, t) is not None]
            assert len(found) == 1
            return found[0]
        if word in ("last", "then", "held", "fresh"):
            return getattr(self, "_" + word)(at, place, t, part, inner)
        kinds = tuple(self.kinds[at][i] for i in inner)
        values = tuple(self.part(at, i, t) for i in inner)
        return result(word, kinds, values, self.kinds[at][place])

    def _last(self, at, place, t, part, inner):
        if self._begins(at, place, t, part[2]):
            return zero(self.kinds[at][place])
        clock = self.clocks[at][place]
        before = max(s for s in range(t) if self.there(clock, s))
        return self.part(at, inner[0], before)

    def _then(self, at, place, t, part, inner):
        first = self._begins(at, place, t, part[3])
        return self.part(at, inner[0 if first else 1], t)

    def _held(self, at, place, t, part, inner):
        for s in range(t, -1, -1):
            value = self.part(at, inner[1], s)
            if value is not None:
                return value
            if any(self.name(r, s) == 1 for r in part[4]):
                break
        return self.part(at, inner[0], t)

    def _fresh(self, at, place, t, part, inner):
        for s in range(t, max(t - part[2], 0) - 1, -1):
            value = self.name(part[1], s)
            if value is not None:
                return value
        return self.part(at, inner[0], t)
