"""The kinds of a flat program, as its equations tell them."""

from keepsgoing.errors import KindClash, KindOpen
from keepsgoing.exprparts import listed
from keepsgoing.kinds import BOOL
from keepsgoing.kindterms import ANY, PLAIN, KindTerms


def kinds_of(flat):
    """Return the kinds of the names of the equations, in order."""
    return tuple([kinds[-1] for kinds in part_kinds(flat)])


def part_kinds(flat):
    """Return for each equation the kinds of the listed parts of its expr; the last is its own."""
    look = KindLook(flat)
    for at, equation in enumerate(flat[2]):
        if not look.fits(equation):
            raise KindClash(at)
    found = []
    for equation, terms in zip(flat[2], look.parts):
        kinds = [look.terms.kind(term) for term in terms]
        if None in kinds:
            raise KindOpen(equation[0])
        found.append(kinds)
    return found


class KindLook:
    """A look at equations one by one, which makes the kinds of parts equal."""

    def __init__(self, flat):
        self.terms = KindTerms()
        self.names = {}
        self.parts = []
        for name, kind, event in flat[1]:
            self.names[name] = self.terms.new_told(kind)
            if event == 1:
                self.names[name + "@here"] = self.terms.new_told(BOOL)
        for equation in flat[2]:
            self.names[equation[0]] = self.terms.new(ANY)

    def fits(self, equation):
        """Take an equation in, and tell whether something fits all that were taken in."""
        name, kind, _, _, expr = equation
        found = []
        pairs = []
        for part, inner in listed(expr):
            own, equals = self._term_of(part, [found[place] for place in inner])
            found.append(own)
            pairs.extend(equals)
        pairs.append((self.names[name], found[-1]))
        if kind is not None:
            pairs.append((found[-1], self.terms.new_told(kind)))
        self.parts.append(found)
        for one, other in pairs:
            if not self.terms.make_equal(one, other):
                return False
        return True

    def _term_of(self, part, inner):
        """Return the term of a part, and pairs of terms that are equal, by the terms in it."""
        rule = RULES[part[0]]
        return rule(self, part, inner)

    def value_term(self, value):
        """Return the term of a value in a layer or an arm."""
        return self.new_told(BOOL if value[0] == "truth" else value[:2])

    def new(self, known):
        """Return a new term."""
        return self.terms.new(known)

    def new_told(self, kind):
        """Return a new term for a kind."""
        return self.terms.new_told(kind)

    def layer_pairs(self, layer):
        """Return pairs of terms that are equal by a layer."""
        if layer[0] == "every":
            return []
        return [(self.names[layer[1]], self.value_term(layer[2]))]


def _chained(terms):
    return list(zip(terms, terms[1:]))


def _int(look, part, inner):
    return look.new(("number", part[1], part[1])), []


def _truth(look, part, inner):
    return look.new_told(BOOL), []


def _mode(look, part, inner):
    return look.new_told(part[:2]), []


def _name(look, part, inner):
    return look.names[part[1]], []


def _logic(look, part, inner):
    own = look.new_told(BOOL)
    return own, [(own, term) for term in inner]


def _equal(look, part, inner):
    return look.new_told(BOOL), _chained(inner)


def _number(look):
    return look.new(("number", 1000, -1000))


def _order(look, part, inner):
    return look.new_told(BOOL), _chained([_number(look)] + inner)


def _count(look, part, inner):
    own = _number(look)
    return own, _chained([own] + inner)


def _as(look, part, inner):
    return look.new_told(part[2]), [(_number(look), inner[0])]


def _pick(look, part, inner):
    return inner[1], [(look.new_told(BOOL), inner[0]), (inner[1], inner[2])]


def _same(look, part, inner):
    return inner[0], _chained(inner)


def _row(look, part, inner):
    entry = look.new(PLAIN)
    return look.new(("line", entry, len(inner))), _chained([entry] + inner)


def _line(look, entry):
    return look.new(("line", entry, None))


def _at(look, part, inner):
    own = look.new(PLAIN)
    return own, [(_line(look, own), inner[0]), (_number(look), inner[1])]


def _put(look, part, inner):
    entry = look.new(PLAIN)
    pairs = [(_line(look, entry), inner[0]), (_number(look), inner[1]), (entry, inner[2])]
    return inner[0], pairs


def _sum(look, part, inner):
    own = _number(look)
    return own, [(_line(look, own), inner[0])]


def _some(look, part, inner):
    own = look.new_told(BOOL)
    return own, [(_line(look, own), inner[0])]


def _when(look, part, inner):
    return inner[0], look.layer_pairs(part[2])


def _held(look, part, inner):
    return inner[0], _chained(inner) + look.layer_pairs(part[3])


def _merge(look, part, inner):
    name = look.names[part[1]]
    return inner[0], _chained(inner) + [(name, look.value_term(value)) for value, _ in part[2]]


def _fresh(look, part, inner):
    return inner[0], [(look.names[part[1]], inner[0])]


RULES = {
    "int": _int, "truth": _truth, "mode": _mode, "name": _name,
    "not": _logic, "and": _logic, "or": _logic, "xor": _logic, "eq": _equal, "ne": _equal,
    "lt": _order, "le": _order, "neg": _count, "add": _count, "sub": _count, "mul": _count,
    "div": _count, "min": _count, "max": _count, "mid": _count, "as": _as, "pick": _pick,
    "vote": _same, "row": _row, "at": _at, "put": _put, "sum": _sum, "any": _some,
    "all": _some, "last": _same, "then": _same, "held": _held, "when": _when,
    "merge": _merge, "weave": _same, "fresh": _fresh,
}
