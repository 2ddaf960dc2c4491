"""What the parts of flat exprs become in a flow."""

from keepsgoing.kinds import BOOL, how_many, zero


class Site:
    """A part of a flat expr, with its node, the nodes of the parts in it, its kind and clock."""

    def __init__(self, part, node, inner, kind, clock):
        self.part = part
        self.node = node
        self.inner = inner
        self.own_kind = kind
        self.clock = clock


def node_of_part(making, site):
    """Return the node of a part that is no name; what else it needs is made."""
    word = site.part[0]
    if word in RULES:
        rule = RULES[word]
        return rule(making, site)
    return (word, site.own_kind, site.clock) + tuple(site.inner)


def _constant(making, site):
    return ("const", site.own_kind, site.clock, site.part[-1])


def _last(making, site):
    resets = making.resets_of(site.part[2])
    return ("delay", site.own_kind, site.clock, zero(site.own_kind), site.inner[0], resets)


def _then(making, site):
    never = making.constant(BOOL, site.clock, 0)
    resets = making.resets_of(site.part[3])
    begins = making.add(("delay", BOOL, site.clock, 1, never, resets))
    return ("pick", site.own_kind, site.clock, begins, site.inner[0], site.inner[1])


def _merge(making, site):
    return ("merge", site.own_kind, site.clock, making.node_of[site.part[1]], tuple(site.inner))


def _held(making, site):
    """Keep the last f as long as there is one; without one, the zero, so that states are few."""
    kind, clock = site.own_kind, site.clock
    first, sampled = site.inner
    resets = making.resets_of(site.part[4])
    node, value = making.pair(clock, site.part[3])
    part_kind = _kind_in(site.part[3])
    is_kept, kept = making.new(), making.new()
    was_kept = making.add(("delay", BOOL, clock, 0, is_kept, resets))
    before = making.add(("delay", kind, clock, zero(kind), kept, resets))
    test = _test(making, clock, part_kind, (node, value))
    making.nodes[is_kept] = ("or", BOOL, clock, was_kept, test)
    otherwise = making.add(("pick", kind, clock, was_kept, before, first))
    nothing = making.constant(kind, clock, zero(kind))
    making.nodes[kept] = ("pick", kind, clock, is_kept, site.node, nothing)
    arms = [sampled if each == value else _sample(making, site, otherwise, (node, each))
            for each in range(how_many(part_kind))]
    return ("merge", kind, clock, node, tuple(arms))


def _sample(making, site, node, pair):
    return making.add(("when", site.own_kind, site.clock + (pair,), node))


def _kind_in(layer):
    """Return the kind of the node that stands in a clock for a layer."""
    if layer[0] == "every" or layer[2][0] == "truth":
        return BOOL
    return layer[2][:2]


def _test(making, clock, kind, pair):
    """Return a node that is 1 if the node of a pair has the value beside it."""
    node, value = pair
    if kind != BOOL:
        wanted = making.constant(kind, clock, value)
        return making.add(("eq", BOOL, clock, node, wanted))
    return node if value == 1 else making.add(("not", BOOL, clock, node))


def _weave(making, site):
    kind, clock = site.own_kind, site.clock
    many = len(site.inner)
    woven = []
    for at, arm in enumerate(site.inner):
        beat = making.beat(clock, many, at)
        nothing = making.constant(kind, clock + ((beat, 0),), zero(kind))
        woven.append((beat, ("merge", kind, clock, beat, (nothing, arm))))
    node = woven[-1][1]
    for beat, merge in reversed(woven[:-1]):
        node = ("pick", kind, clock, beat, making.add(merge), making.add(node))
    return node


def _fresh(making, site):
    """Count the ticks for which what came stays fresh; behind them, the zero is kept."""
    _, name, many, _ = site.part
    here, given = making.node_of[name + "@here"], making.node_of[name]
    if many == 0:
        return _by_coming(making, site, here, given, site.inner[0])
    kind = site.own_kind
    count = ("num", 0, many, 1, "hold")
    none = making.constant(count, (), 0)
    left, kept = making.new(), making.new()
    was_left = making.add(("delay", count, (), 0, left, ()))
    before = making.add(("delay", kind, (), zero(kind), kept, ()))
    fewer = making.add(("sub", count, (), was_left, making.constant(count, (), 1)))
    making.nodes[left] = ("pick", count, (), here, making.constant(count, (), many), fewer)
    is_fresh = making.add(("lt", BOOL, (), none, was_left))
    otherwise = making.add(("pick", kind, (), is_fresh, before, site.inner[0]))
    goes_on = making.add(("lt", BOOL, (), none, left))
    nothing = making.constant(kind, (), zero(kind))
    making.nodes[kept] = ("pick", kind, (), goes_on, site.node, nothing)
    return _by_coming(making, site, here, given, otherwise)


def _by_coming(making, site, here, given, otherwise):
    missing = _sample(making, site, otherwise, (here, 0))
    return ("merge", site.own_kind, site.clock, here, (missing, given))


RULES = {
    "int": _constant, "truth": _constant, "mode": _constant, "last": _last, "then": _then,
    "merge": _merge, "held": _held, "weave": _weave, "fresh": _fresh,
}
