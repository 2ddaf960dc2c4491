"""The parts of flat exprs, as lists, so that deep exprs need no deep calls."""

from keepsgoing.ops import COUNTS

LEAVES = ("int", "truth", "mode", "name")


def operands_of(expr):
    """Return the parts directly in a flat expr, from left to right."""
    word = expr[0]
    if word in LEAVES:
        return ()
    if word in ("last", "when", "as"):
        return (expr[1],)
    if word in ("then", "held"):
        return (expr[1], expr[2])
    if word == "merge":
        return tuple([part for _, part in expr[2]])
    if word == "fresh":
        return (expr[3],)
    return expr[1:]


def is_operation(expr):
    """Tell whether a flat expr is an operation."""
    return expr[0] in COUNTS


def listed(expr):
    """Return all parts of a flat expr, each one behind the parts in it, itself last.

    An entry is a part, and a list of the places of the parts directly in it.
    """
    parts = []
    inner = []
    waiting = [(expr, None)]
    while waiting:
        part, above = waiting.pop()
        if above is not None:
            inner[above].append(len(parts))
        parts.append(part)
        inner.append([])
        waiting.extend([(each, len(parts) - 1) for each in operands_of(part)])
    # The rightmost parts came first, so all is turned round.
    end = len(parts) - 1
    turned = [[end - place for place in reversed(places)] for places in inner]
    parts.reverse()
    turned.reverse()
    return list(zip(parts, turned))


def places_from_left(parts):
    """Return the places of the listed parts, each ahead of those in it, from left to right."""
    found = []
    waiting = [len(parts) - 1]
    while waiting:
        at = waiting.pop()
        found.append(at)
        waiting.extend(list(reversed(parts[at][1])))
    return found


def lasts_from_left(parts):
    """Return the places of the lasts among the listed parts, in the order of places_from_left."""
    return [at for at in places_from_left(parts) if parts[at][0][0] == "last"]


def own_names(part):
    """Return the names of streams that a part itself looks at, but for its resets."""
    word = part[0]
    if word == "name":
        return (part[1],)
    if word == "merge":
        return (part[1],)
    if word == "fresh":
        return (part[1] + "@here",)
    if word == "when":
        return layer_names(part[2])
    if word == "held":
        return layer_names(part[3])
    return ()


def layer_names(layer):
    """Return the names in a layer; a home is none of them."""
    return (layer[1],) if layer[0] == "is" else ()


def own_resets(part):
    """Return the names of the resets of a part itself."""
    return part[-1] if part[0] in ("last", "then", "held") else ()


def expr_hangs(expr):
    """Return the names on which an expr makes its name hang, each once."""
    parts = listed(expr)
    within = lasts_around(parts)
    found = {}
    for at, (part, _) in enumerate(parts):
        for name in own_resets(part):
            found[name] = True
        if not within[at]:
            for name in own_names(part):
                found[name] = True
    return list(found)


def lasts_around(parts):
    """Return for each of the listed parts whether it stands within a last."""
    within = [False] * len(parts)
    for at in reversed(range(len(parts))):
        part, inner = parts[at]
        for place in inner:
            within[place] = within[at] or part[0] == "last"
    return within
