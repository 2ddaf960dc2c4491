"""The clocks of a flat program, as its equations tell them."""

from keepsgoing.clockterms import ClockTerms
from keepsgoing.errors import ClockClash
from keepsgoing.exprparts import is_operation, listed

ALWAYS = (0, ())


def clocks_of(flat):
    """Return the told clocks of the names of the equations, in order."""
    return tuple([clocks[-1] for clocks in part_clocks(flat)])


def part_clocks(flat):
    """Return for each equation the clocks of the listed parts of its expr; the last is its own."""
    look = ClockLook(flat)
    for at in range(len(flat[2])):
        if not look.fits(at):
            raise ClockClash(at)
    look.tell_beginnings()
    return [[look.terms.whole(term)[1] for term in terms] for terms in look.parts]


class ClockLook:
    """A look at equations one by one, which makes the clocks of parts equal."""

    def __init__(self, flat):
        self.equations = flat[2]
        self.terms = ClockTerms()
        self.parts = []
        self.names = {equation[0]: self.terms.new() for equation in flat[2]}
        for name, _, event in flat[1]:
            self.names[name] = self._input_term(name, event)
            if event == 1:
                self.names[name + "@here"] = ALWAYS
        for name, _, event in flat[1]:
            if event not in (0, 1):
                self.terms.make_equal(self.names[name], self.names[event])

    def _input_term(self, name, event):
        if event == 0:
            return ALWAYS
        if event == 1:
            return (0, (("is", name + "@here", ("truth", 1)),))
        return self.terms.new()

    def fits(self, at):
        """Take an equation in, and tell whether something fits all that were taken in."""
        name, _, home, tied, expr = self.equations[at]
        found = []
        pairs = []
        for part, inner in listed(expr):
            rule = _same if is_operation(part) else RULES[part[0]]
            own, equals = rule(self, part, [found[place] for place in inner], home)
            found.append(own)
            pairs.extend(equals)
        pairs.append((self.names[name], found[-1]))
        if tied == 1:
            pairs.append((self.names[name], self._home_term(home)))
        if tied == 2:
            pairs.append((self.names[name], self.names[self.equations[at - 1][0]]))
        self.parts.append(found)
        for one, other in pairs:
            if not self.terms.make_equal(one, other):
                return False
        return True

    def _home_term(self, home):
        return ALWAYS if home is None else self.names[home]

    def tell_beginnings(self):
        """Tell the beginnings that no equation tells: the clocks of the homes."""
        for name, _, home, _, _ in self.equations:
            start, _ = self.terms.whole(self.names[name])
            if start != 0:
                self.terms.tell(start, self.terms.whole(self._home_term(home))[1])


def _longer(term, layer):
    return (term[0], term[1] + (layer,))


def _any(look, part, inner, home):
    return look.terms.new(), []


def _name(look, part, inner, home):
    return look.names[part[1]], []


def _same(look, part, inner, home):
    return inner[0], list(zip(inner, inner[1:]))


def _when(look, part, inner, home):
    layer = part[2]
    pairs = [] if layer[0] == "every" else [(look.names[layer[1]], inner[0])]
    return _longer(inner[0], layer), pairs


def _held(look, part, inner, home):
    layer = part[3]
    pairs = [(_longer(inner[0], layer), inner[1])]
    if layer[0] == "is":
        pairs.append((look.names[layer[1]], inner[0]))
    return inner[0], pairs


def _merge(look, part, inner, home):
    _, name, arms = part
    own = look.names[name]
    values = [value for value, _ in arms]
    return own, [(_longer(own, ("is", name, value)), arm) for value, arm in zip(values, inner)]


def _weave(look, part, inner, home):
    own = look.terms.new()
    layers = [("every", len(inner), at, home) for at in range(len(inner))]
    return own, [(_longer(own, layer), arm) for layer, arm in zip(layers, inner)]


def _fresh(look, part, inner, home):
    return ALWAYS, [(ALWAYS, inner[0])]


RULES = {
    "int": _any, "truth": _any, "mode": _any, "name": _name, "as": _same, "last": _same,
    "then": _same, "when": _when, "held": _held, "merge": _merge, "weave": _weave,
    "fresh": _fresh,
}
