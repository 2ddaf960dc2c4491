"""Slow looks for kinds and clocks that try all assignments of a small choice."""

import itertools

from keepsgoing.ops import result_kind

BOOL = ("bool",)
WIDE = ("num", -1000, 1000, 1, "wrap")
HALF = ("num", -1000, 1000, 2, "wrap")
TINY = ("num", 0, 1, 1, "hold")
MODE = ("mode", ("a",))
PLAIN = (BOOL, WIDE, HALF, TINY, MODE)
CHOICE = PLAIN + tuple(("row", kind, size) for kind in PLAIN for size in (1, 2))


def inner_parts(expr):
    word = expr[0]
    if word in ("int", "truth", "mode", "name"):
        return ()
    if word in ("last", "when", "as"):
        return (expr[1],)
    if word in ("then", "held"):
        return expr[1:3]
    if word == "merge":
        return tuple(part for _, part in expr[2])
    return (expr[3],) if word == "fresh" else expr[1:]


class Slow:
    """All assignments to the names; a leaf has choices, other parts follow from what is in them."""

    def __init__(self, flat, choice, whole_choice):
        self.flat = flat
        self.choice = choice
        self.names = [equation[0] for equation in flat[2]]
        self.whole_choice = whole_choice

    def assignments(self, many):
        """All that fit the first so many equations, with the possible choices of their parts."""
        told = [self.whole_choice(equation) if at < many else self.choice
                for at, equation in enumerate(self.flat[2])]
        for picked in itertools.product(*told):
            named = {**self.told_inputs(), **dict(zip(self.names, picked))}
            found = []
            for at in range(many):
                parts = self.parts_of(at, named)
                if parts is None:
                    break
                found.append(parts)
            else:
                yield named, found

    def parts_of(self, at, named):
        """The possible choices of each part of an equation, its root first; None if none fit."""
        equation = self.flat[2][at]
        ways = {}
        root = self.ways(equation, equation[4], named, ways, ())
        if named[equation[0]] not in root or not self.holds(at, named):
            return None
        found = {}
        self.narrow(equation[4], {named[equation[0]]}, ways, (), found)
        return found

    def ways(self, equation, expr, named, ways, path):
        inner = [self.ways(equation, part, named, ways, path + (k,))
                 for k, part in enumerate(inner_parts(expr))]
        table = {}
        if not inner:
            for one in self.leaf(expr, named):
                table.setdefault(one, []).append(())
        else:
            for picked in itertools.product(*inner):
                for one in self.joined(equation, expr, picked, named):
                    table.setdefault(one, []).append(picked)
        ways[path] = table
        return list(table)

    def narrow(self, expr, allowed, ways, path, found):
        found[path] = allowed
        parts = inner_parts(expr)
        for k, part in enumerate(parts):
            fitting = {picked[k] for one in allowed for picked in ways[path][one]}
            self.narrow(part, fitting, ways, path + (k,), found)


class SlowKinds(Slow):
    def __init__(self, flat):
        super().__init__(flat, CHOICE, lambda eq: CHOICE if eq[1] is None else (eq[1],))

    def told_inputs(self):
        found = {}
        for name, kind, _ in self.flat[1]:
            found[name], found[name + "@here"] = kind, BOOL
        return found

    def holds(self, at, named):
        return True

    def leaf(self, expr, named):
        if expr[0] == "int":
            return [k for k in CHOICE if k[0] == "num" and k[1] <= expr[1] <= k[2]]
        if expr[0] == "name":
            return [named[expr[1]]]
        return [BOOL] if expr[0] == "truth" else [expr[:2]]

    def joined(self, equation, expr, kinds, named):
        word = expr[0]
        same = len(set(kinds)) == 1
        if word in ("last", "when"):
            good = word == "last" or self.layer(expr[2], named)
        elif word in ("then", "weave"):
            good = same
        elif word == "held":
            good = same and self.layer(expr[3], named)
        elif word == "merge":
            good = same and all(named[expr[1]] == self.value(v) for v, _ in expr[2])
        elif word == "fresh":
            good = kinds[0] == named[expr[1]]
        else:
            kind = result_kind(word, kinds, expr[2] if word == "as" else None)
            return [] if kind is None else [kind]
        return [kinds[0]] if good else []

    def value(self, value):
        return BOOL if value[0] == "truth" else value[:2]

    def layer(self, layer, named):
        return layer[0] == "every" or named[layer[1]] == self.value(layer[2])

    def clash(self):
        for many in range(1, len(self.names) + 1):
            if next(iter(self.assignments(many)), None) is None:
                return many - 1
        return None

    def open_name(self):
        """The first name with parts that have different kinds, and the kinds if there is none."""
        kinds = [{} for _ in self.names]
        for named, found in self.assignments(len(self.names)):
            for at, parts in enumerate(found):
                for path, allowed in parts.items():
                    kinds[at].setdefault(path, set()).update(allowed)
        for at, parts in enumerate(kinds):
            if any(len(allowed) > 1 for allowed in parts.values()):
                return self.names[at], None
        return None, tuple(next(iter(parts[()])) for parts in kinds)


class SlowClocks(Slow):
    def __init__(self, flat, layers, longest):
        clocks = [()]
        for size in range(1, longest + 1):
            clocks.extend(itertools.product(layers, repeat=size))
        super().__init__(flat, clocks, lambda eq: clocks)

    def told_inputs(self):
        found = {}
        for name, _, event in self.flat[1]:
            found[name] = (("is", name + "@here", ("truth", 1)),) if event == 1 else ()
            found[name + "@here"] = ()
        return found

    def holds(self, at, named):
        name, _, home, tied, _ = self.flat[2][at]
        if tied == 1:
            return named[name] == (() if home is None else named[home])
        return tied == 0 or named[name] == named[self.names[at - 1]]

    def leaf(self, expr, named):
        return [named[expr[1]]] if expr[0] == "name" else self.choice

    def joined(self, equation, expr, clocks, named):
        word = expr[0]
        if word == "when":
            layer = expr[2]
            good = layer[0] == "every" or named[layer[1]] == clocks[0]
            return [clocks[0] + (layer,)] if good else []
        if word == "held":
            layer = expr[3]
            good = clocks[1] == clocks[0] + (layer,)
            return [clocks[0]] if good and (layer[0] == "every" or named[layer[1]] == clocks[0]) else []
        if word == "merge":
            c = named[expr[1]]
            good = all(clock == c + (("is", expr[1], value),)
                       for clock, (value, _) in zip(clocks, expr[2]))
            return [c] if good else []
        if word == "weave":
            base = clocks[0][:-1]
            good = all(clock == base + (("every", len(clocks), k, equation[2]),)
                       for k, clock in enumerate(clocks))
            return [base] if good else []
        if word == "fresh":
            return [()] if clocks[0] == () else []
        return [clocks[0]] if len(set(clocks)) == 1 else []

    def clash(self):
        for many in range(1, len(self.names) + 1):
            if next(iter(self.assignments(many)), None) is None:
                return many - 1
        return None
