"""Random programs, most of which are let; the same seed gives the same program."""

import random

KINDS = "kind lv = num -3 .. 4 per 2 hold; kind wr = num 0 .. 5 wrap; kind md = mode(aa, bb, cc);\n"
VALUES = {"bool": ["true", "false"], "lv": ["0", "1", "- 2", "4"], "wr": ["0", "1", "5"],
          "md": ["md.aa", "md.bb", "md.cc"]}
NAMES = {"bool": ["true", "false"], "md": ["md.aa", "md.bb", "md.cc"]}


class Maker:
    def __init__(self, seed):
        self.random = random.Random(seed)
        self.count = 0
        self.units = []

    def new(self):
        self.count += 1
        return f"n{self.count}"

    def pick(self, things):
        return self.random.choice(things)

    def kind(self):
        return self.pick(["bool", "bool", "lv", "wr", "md"])

    def expr(self, kind, scope, depth, state=False, turn=False):
        """scope: dict with names by kind, own: names that can part, late: names for last."""
        known = scope["seen"].get(kind, [])
        if depth == 0 or self.random.random() < 0.2:
            if known and self.random.random() < 0.7:
                return self.pick(known)
            return self.pick(VALUES[kind])
        inner = lambda k: self.expr(k, scope, depth - 1, state, turn)
        forms = ["op", "op", "pick"]
        if not turn:
            forms += ["then", "last", "held", "merge", "weave", "every", "else", "fresh"]
        form = self.pick(forms)
        if form == "pick":
            return f"pick({inner('bool')}, {inner(kind)}, {inner(kind)})"
        if form == "then":
            return f"({inner(kind)} then {inner(kind)})"
        if form == "last":
            late = scope["late"].get(kind, []) + known
            body = self.pick(late) if late and self.random.random() < 0.6 else inner(kind)
            return f"({self.pick(VALUES[kind])} then last {body})"
        if form == "weave":
            many = self.pick([1, 2, 3])
            arms = [f"when({inner(kind)}, every {many} from {i})" for i in range(many)]
            return f"weave({', '.join(arms)})"
        if form == "every":
            n = self.pick([1, 2, 3])
            k = self.random.randrange(n)
            layer = f"every {n} from {k}"
            return f"held({inner(kind)}, when({inner(kind)}, {layer}), {layer})"
        parters = scope["own"].get("bool", []) + scope["own"].get("md", [])
        if form in ("held", "merge") and parters:
            x = self.pick(parters)
            k = "bool" if x in scope["own"].get("bool", []) else "md"
            if form == "merge":
                arms = [f"{v}: when({inner(kind)}, {x} is {v})" for v in NAMES[k]]
                self.random.shuffle(arms)
                return f"merge({x}, {', '.join(arms)})"
            layer = f"{x} is {self.pick(NAMES[k])}"
            return f"held({inner(kind)}, when({inner(kind)}, {layer}), {layer})"
        events = scope["events"].get(kind, [])
        if form in ("else", "fresh") and events and not state:
            x = self.pick(events)
            if form == "else":
                return f"else({x}, {inner(kind)})"
            return f"fresh({x}, {self.pick([0, 1, 2, 3])}, {inner(kind)})"
        return self.operation(kind, inner, scope, state)

    def operation(self, kind, inner, scope, state):
        if kind == "bool":
            k = self.pick(["lv", "wr"])
            forms = [f"(not {inner('bool')})", f"({inner('bool')} and {inner('bool')})",
                     f"({inner('bool')} xor {inner('bool')})", f"({inner('bool')} or {inner('bool')})",
                     f"({inner('lv')} == {self.known('lv', scope)})",
                     f"({self.known(k, scope)} < {inner(k)})",
                     f"any(row({inner('bool')}, {inner('bool')}))"]
            if scope["events"] and not state:
                names = [x for xs in scope["events"].values() for x in xs]
                forms.append(f"here({self.pick(names)})")
            return self.pick(forms)
        if kind == "md":
            return f"vote({inner('md')}, {inner('md')}, {inner('md')})"
        other = "lv" if kind == "wr" else "wr"
        return self.pick([
            f"({inner(kind)} + {inner(kind)})", f"({inner(kind)} * {inner(kind)})",
            f"(- {inner(kind)})", f"({inner(kind)} - {inner(kind)})",
            f"mid({inner(kind)}, {inner(kind)}, {inner(kind)})",
            f"as({self.known(other, scope)}, {kind})",
            f"sum(row({inner(kind)}, {inner(kind)}, {inner(kind)}))",
            f"at(row({inner(kind)}, {inner(kind)}), {self.known('wr', scope)})"])

    def known(self, kind, scope):
        names = scope["seen"].get(kind, [])
        return self.pick(names) if names else f"as({self.pick(scope['seen']['lv'])}, {kind})"

    def inner_scope(self, scope):
        return {"seen": {k: list(v) for k, v in scope["seen"].items()}, "own": {},
                "late": {k: list(v) for k, v in scope["late"].items()}, "events": {}}

    def add(self, scope, kind, name):
        for what in ("seen", "own", "late"):
            scope[what].setdefault(kind, []).append(name)

    def items(self, scope, many, depth, state, targets, machines):
        """Items that define new locals and the targets, a list of (name, kind)."""
        rows = []
        wanted = list(targets)
        new = [(self.new(), self.kind()) for _ in range(many)]
        for name, kind in new:
            rows.append(f"local {name}: {kind};" if self.random.random() < 0.8
                        else f"local {name};")
            scope["late"].setdefault(kind, []).append(name)
        wanted += new
        self.random.shuffle(wanted)
        while wanted:
            name, kind = wanted.pop()
            form = self.random.random()
            if form < 0.2 and self.units:
                rows.append(self.use(name, kind, scope, state))
            elif form < 0.45 and machines:
                group = [(name, kind)] + [wanted.pop() for _ in range(min(len(wanted), 1))]
                rows.append(self.machine(group, scope, depth, state, machines - 1))
                for each, k in group[1:]:
                    self.seen(scope, k, each)
            else:
                rows.append(f"{name} = pick(true, {self.expr(kind, scope, depth, state)}, "
                            f"{self.known_or_value(kind, scope)});")
            self.seen(scope, kind, name)
        return rows

    def known_or_value(self, kind, scope):
        names = scope["seen"].get(kind, [])
        return self.pick(names) if names else self.pick(VALUES[kind])

    def seen(self, scope, kind, name):
        scope["seen"].setdefault(kind, []).append(name)
        scope["own"].setdefault(kind, []).append(name)

    def use(self, name, kind, scope, state):
        fitting = [u for u in self.units if u[2] == kind]
        if not fitting:
            return f"{name} = {self.expr(kind, scope, 2, state)};"
        unit, ins, _ = self.pick(fitting)
        args = ", ".join(self.expr(k, scope, 2, state) for k in ins)
        every = f" every {self.expr('bool', scope, 2, state)}" if self.random.random() < 0.6 else ""
        return f"use {name} = {unit}({args}){every};"

    def machine(self, targets, scope, depth, state, machines):
        many = self.pick([1, 2, 2, 3])
        states = [f"s{i}" for i in range(many)]
        rows = []
        for name in states:
            inner = self.inner_scope(scope)
            body = self.items(inner, self.pick([0, 1]), min(depth, 2), True, targets, machines)
            unless = self.turns("unless", scope, states, state)
            until = self.turns("until", inner, states, True)
            rows.append(f"state {name} {{ {unless} {' '.join(body)} {until} }}")
        return f"machine {self.new()} {{ {' '.join(rows)} }}"

    def turns(self, word, scope, states, state):
        rows = []
        for _ in range(self.pick([0, 1, 1, 2])):
            test = self.expr("bool", scope, 2, state, True)
            rows.append(f"{word} {test} {self.pick(['go', 'back'])} {self.pick(states)};")
        return " ".join(rows)

    def unit(self, name, events, many, machines):
        ins = [("i0", "lv"), ("i1", "bool"), ("i2", self.kind())]
        out = self.kind()
        scope = {"seen": {}, "own": {}, "late": {}, "events": {}}
        for each, kind in ins:
            self.add(scope, kind, each)
        scope["late"].setdefault(out, []).append("out0")
        told = [f"{x}: {k}" for x, k in ins]
        if events:
            scope["events"] = {"lv": ["e0"], "bool": ["e1"]}
            told += ["event e0: lv", "event e1: bool"]
        rows = self.items(scope, many, 3, False, [("out0", out)], machines)
        rows.append(f"assume {self.expr('bool', scope, 2)};")
        rows.append(f"keep {self.expr('bool', scope, 2)};")
        text = f"unit {name}({', '.join(told)}) gives (out0: {out}) {{ {' '.join(rows)} }}\n"
        if not events:
            self.units.append((name, [k for _, k in ins], out))
        return text, [k for _, k in ins]


def random_program(seed):
    """A text, and the kinds of the plain inputs of its top; two events follow."""
    maker = Maker(seed)
    text = KINDS
    for at in range(maker.pick([0, 1, 2])):
        text += maker.unit(f"u{at}", False, maker.pick([0, 1]), 1)[0]
    top, kinds = maker.unit("top", True, maker.pick([1, 2, 3]), 2)
    return text + top, kinds


def random_rows(seed, kinds, many):
    rng = random.Random(seed)
    ends = {"bool": (0, 1), "lv": (-3, 4), "wr": (0, 5), "md": (0, 2)}
    rows = []
    for _ in range(many):
        row = [rng.randint(*ends[kind]) for kind in kinds]
        row.append(rng.choice([None, None, -3, 2, 4]))
        row.append(rng.choice([None, 0, 1]))
        rows.append(tuple(row))
    return rows
