"""Random flat programs of all forms, written as equations: many of them are let.

There are events, loose inputs, resets by all names that can be some, rings, rates and samples.
"""

import random

from keepsgoing.kinds import values_of

BOOL = ("bool",)
LV = ("num", -3, 4, 2, "hold")
WR = ("num", 0, 5, 1, "wrap")
MODE = ("mode", ("p", "q", "r"))
ROW = ("row", BOOL, 2)
KINDS = [BOOL, BOOL, BOOL, LV, WR, MODE, ROW]
INPUTS = (("a", BOOL, 0), ("b", BOOL, 0), ("n", LV, 0), ("w", WR, 0), ("m", MODE, 0),
          ("o", ROW, 0), ("e", BOOL, 1), ("v", LV, 1))
NO, YES = ("truth", 0), ("truth", 1)


def coming(name):
    return (("is", name + "@here", YES),)


def value_of(kind, value):
    return ("truth", value) if kind == BOOL else ("mode", kind[1], value)


class FlatMaker:
    def __init__(self, seed, rings):
        self.random = random.Random(seed)
        self.rings = rings
        self.known = [(name, kind, coming(name) if event else ()) for name, kind, event in INPUTS]
        self.known += [("e@here", BOOL, ()), ("v@here", BOOL, ())]
        self.later = []
        self.equations = []
        self.loose = []

    def pick(self, things):
        return self.random.choice(things)

    def names(self, kind, clock, last=False):
        told = self.known + (self.later if last else [])
        return [name for name, k, c in told if k == kind and c == clock]

    def parters(self, clock):
        return [(name, kind) for name, kind, c in self.known
                if c == clock and kind in (BOOL, MODE)]

    def resets(self, clock):
        names = [name for name, kind, c in self.known if kind == BOOL and c == clock[:len(c)]]
        count = self.pick([0, 0, 1, 1, 2])
        return tuple(self.random.sample(names, min(count, len(names))))

    def leaf(self, kind, clock, last=False):
        names = self.names(kind, clock, last)
        if names and self.random.random() < 0.75:
            return ("name", self.pick(names))
        return self.constant(kind)

    def constant(self, kind):
        value = self.pick(values_of(kind))
        if kind == ROW:
            return ("row",) + tuple(("truth", each) for each in value)
        if kind in (LV, WR):
            return ("int", value)
        return value_of(kind, value)

    def layers(self, clock):
        n = self.pick([1, 2, 3, 4, 12])
        found = [("every", n, self.random.randrange(n), None)]
        for name, kind in self.parters(clock):
            found.append(("is", name, value_of(kind, self.pick(values_of(kind)))))
        return self.pick(found + found[1:])

    def expr(self, kind, clock, depth, last=False):
        if depth == 0 or self.random.random() < 0.15:
            return self.leaf(kind, clock, last)
        forms = ["op", "op", "pick", "then", "last", "held", "weave", "merge", "fresh"]
        if clock:
            forms += ["when", "when"]
        return getattr(self, "_" + self.pick(forms))(kind, clock, depth - 1, last)

    def _pick(self, kind, clock, depth, last):
        return ("pick", self.expr(BOOL, clock, depth, last), self.expr(kind, clock, depth, last),
                self.expr(kind, clock, depth, last))

    def _then(self, kind, clock, depth, last):
        return ("then", self.expr(kind, clock, depth, last), self.expr(kind, clock, depth, last),
                self.resets(clock))

    def _last(self, kind, clock, depth, last):
        resets = self.resets(clock)
        more = resets + self.resets(clock) if self.random.random() < 0.2 else resets
        inner = self.expr(kind, clock, depth, True)
        return ("then", self.expr(kind, clock, depth, last), ("last", inner, resets), more)

    def _when(self, kind, clock, depth, last):
        return ("when", self.expr(kind, clock[:-1], depth, last), clock[-1])

    def _held(self, kind, clock, depth, last):
        layer = self.layers(clock)
        return ("held", self.expr(kind, clock, depth, last),
                self.expr(kind, clock + (layer,), depth, last), layer, self.resets(clock))

    def _weave(self, kind, clock, depth, last):
        n = self.pick([1, 2, 2, 3, 6])
        arms = [self.expr(kind, clock + (("every", n, k, None),), min(depth, 1), last)
                for k in range(n)]
        return ("weave",) + tuple(arms)

    def _merge(self, kind, clock, depth, last):
        parters = self.parters(clock)
        if not parters:
            return self.leaf(kind, clock, last)
        name, k = self.pick(parters)
        arms = []
        for value in values_of(k):
            told = value_of(k, value)
            arms.append((told, self.expr(kind, clock + (("is", name, told),), depth, last)))
        return ("merge", name, tuple(arms))

    def _fresh(self, kind, clock, depth, last):
        name = {BOOL: "e", LV: "v"}.get(kind)
        if name is None or clock:
            return self._pick(kind, clock, depth, last)
        n = self.pick([0, 1, 2, 3, 12])
        return ("fresh", name, n, self.expr(kind, (), depth, last))

    def _op(self, kind, clock, depth, last):
        def inner(k):
            return self.expr(k, clock, depth, last)
        if kind == BOOL:
            k = self.pick([LV, WR])
            return self.pick([
                ("not", inner(BOOL)), ("and", inner(BOOL), inner(BOOL)),
                ("or", inner(BOOL), inner(BOOL)), ("xor", inner(BOOL), inner(BOOL)),
                ("lt", ("as", self.number(clock), k), inner(k)),
                ("le", ("as", self.number(clock), k), inner(k)),
                ("any", ("row", inner(BOOL), inner(BOOL))), ("all", inner(ROW)),
                ("eq", inner(ROW), ("row", inner(BOOL), inner(BOOL))),
                ("ne", ("as", self.number(clock), k), inner(k)),
                ("at", inner(ROW), ("as", self.number(clock), WR))])
        if kind == ROW:
            return self.pick([
                ("row", inner(BOOL), inner(BOOL)),
                ("put", inner(ROW), ("as", self.number(clock), WR), inner(BOOL)),
                ("vote", inner(ROW), inner(ROW), inner(ROW))])
        if kind == MODE:
            return ("vote", inner(MODE), inner(MODE), inner(MODE))
        return self.pick([
            ("add", inner(kind), inner(kind)), ("sub", inner(kind), inner(kind)),
            ("mul", inner(kind), inner(kind)), ("div", inner(kind), inner(kind)),
            ("neg", inner(kind)), ("min", inner(kind), inner(kind)), ("max", inner(kind), inner(kind)),
            ("mid", inner(kind), inner(kind), inner(kind)), ("as", self.number(clock), kind),
            ("sum", ("row", inner(kind), inner(kind), inner(kind)))])

    def number(self, clock):
        """A number whose kind is told."""
        names = self.names(LV, clock) + self.names(WR, clock)
        if names:
            return ("name", self.pick(names))
        if clock:
            return ("when", self.number(clock[:-1]), clock[-1])
        return ("name", "n")

    def add(self, name, kind, clock, expr):
        self.equations.append((name, kind, None, 0, expr))
        self.known.append((name, kind, clock))

    def ring(self, at, clock):
        """Some names that hang on each other; whether they settle is left to chance."""
        names = [f"r{at}{k}" for k in range(self.pick([1, 2, 2, 3]))]
        test = self.expr(BOOL, clock, 2)

        def logic(depth):
            if depth == 0:
                return self.pick([("name", self.pick(names)), test, self.leaf(BOOL, clock), NO, YES])
            return self.pick([
                ("not", logic(depth - 1)), ("and", logic(depth - 1), logic(depth - 1)),
                ("or", logic(depth - 1), logic(depth - 1)),
                ("pick", test, logic(depth - 1), self.expr(BOOL, clock, 1))])
        for k, name in enumerate(names):
            turn = ("name", names[(k + 1) % len(names)])
            turn = self.pick([turn, ("not", turn)])
            free = self.expr(BOOL, clock, 1)
            form = self.pick(["pick", "pick", "pick", "logic"])
            if form == "logic":
                expr = logic(2)
            else:
                expr = ("pick", test, turn, free) if k % 2 else ("pick", test, free, turn)
            self.equations.append((name, BOOL, None, 0, expr))
        for name in names:
            self.known.append((name, BOOL, clock))

    def flat(self, many):
        clocks = [(), (), (), coming("e"), coming("v")]
        self.later = [("o0", BOOL, ()), ("o1", LV, ())]
        for at in range(many):
            clock = self.pick(clocks)
            if len(clock) < 3 and self.random.random() < 0.5:
                layer = self.layers(clock)
                kind = self.pick(KINDS)
                self.add(f"s{at}", kind, clock + (layer,),
                         ("when", self.expr(kind, clock, 2), layer))
                clocks.append(clock + (layer,))
            if self.random.random() < 0.2:
                home = self.pick(["a"] + [eq[0] for eq in self.equations])
                kind = self.pick(KINDS)
                place = next((c for name, _, c in self.known if name == home), ())
                self.loose.append((f"l{at}", kind, home))
                self.known.append((f"l{at}", kind, place))
            if self.rings and self.random.random() < 0.6:
                self.ring(at, self.pick(clocks))
            kind = self.pick(KINDS)
            self.add(f"x{at}", kind, clock, self.expr(kind, clock, 3))
        self.add("o0", BOOL, (), self.expr(BOOL, (), 3))
        self.add("o1", LV, (), self.expr(LV, (), 3))
        self.random.shuffle(self.equations)
        outputs = tuple(eq[0] for eq in self.equations if eq[0][0] in "xor")
        bools = [name for name, kind, _ in self.known
                 if kind == BOOL and name in {eq[0] for eq in self.equations}]
        keeps = tuple(name for name in bools[-2:] if name not in outputs)
        return ("flat", INPUTS + tuple(self.loose), tuple(self.equations), outputs, (), keeps)


def random_flat(seed, many, rings=False):
    return FlatMaker(seed, rings).flat(many)


def flat_rows(seed, flat, many):
    rng = random.Random(seed)
    rows = []
    for _ in range(many):
        row = [rng.choice(values_of(kind)) for _, kind, _ in flat[1]]
        rows.append(tuple(None if event == 1 and rng.random() < 0.5 else given
                          for given, (_, _, event) in zip(row, flat[1])))
    return rows


def resets_fit(flat, clocks, parts):
    """Whether the resets of the parts have clocks that are beginnings, as [13] asks.

    clocks has the clocks of the listed parts of each equation, parts has these parts.
    """
    told = {eq[0]: each[-1] for eq, each in zip(flat[2], clocks)}
    for name, _, event in flat[1]:
        told[name] = coming(name) if event == 1 else ()
        told[name + "@here"] = ()
    for name, _, event in flat[1]:
        if event not in (0, 1):
            told[name] = told[event]
    for own, listed_parts in zip(clocks, parts):
        for clock, (part, _) in zip(own, listed_parts):
            if part[0] in ("last", "then", "held"):
                if any(told[name] != clock[:len(told[name])] for name in part[-1]):
                    return False
    return True
