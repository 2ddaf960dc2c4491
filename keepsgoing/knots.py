"""Knots of flows: which are let, what enters them, and whether they settle."""

from keepsgoing.flows import is_flow, knots_of
from keepsgoing.kinds import BOOL
from keepsgoing.logic import LOGIC, least_open

MOST_ENTERING = 8
MOST_NODES = 12


def entering(flow, knot):
    """Return the entering nodes of a knot that is let."""
    nodes = flow[2]
    found = []
    for node in knot:
        found.extend([each for each in nodes[node][3:] if nodes[each][0] != "const"])
    return tuple([each for each in sorted(set(found)) if each not in knot])


def settles(flow, knot):
    """Return () if a knot settles, otherwise a tuple with the least truths for which it does not."""
    truths = least_open(knot_codes(flow, knot), len(entering(flow, knot)))
    return () if truths is None else (truths,)


def knot_codes(flow, knot):
    """Return the nodes of a knot as codes for settled_values, with its entering nodes."""
    nodes = flow[2]
    enters = entering(flow, knot)
    codes = []
    for node in knot:
        code = []
        for each in nodes[node][3:]:
            if each in knot:
                code.append(("name", knot.index(each)))
            elif each in enters:
                code.append(("enter", enters.index(each)))
            else:
                code.append(("truth", nodes[each][3]))
        code.append((nodes[node][0], len(nodes[node]) - 3))
        codes.append(code)
    return codes


def judge_knots(flow):
    """Tell whether a right flow is let: whether all its knots are, and settle."""
    return is_flow(flow) and all(_is_let(flow, knot) for knot in knots_of(flow))


def _is_let(flow, knot):
    nodes = [flow[2][node] for node in knot]
    if not all(node[0] in LOGIC and node[1] == BOOL for node in nodes):
        return False
    if len(knot) > MOST_NODES or len(entering(flow, knot)) > MOST_ENTERING:
        return False
    return settles(flow, knot) == ()
