"""Opening: a flow without knots that shows what a flow with knots shows."""

from keepsgoing.errors import TooLarge
from keepsgoing.flows import MOST_NODES, knots_of
from keepsgoing.kinds import BOOL


def opened(flow):
    """Return the opened flow of a flow that is let."""
    word, inputs, nodes, outputs, assumes, keeps = flow
    made = list(nodes)
    for knot in knots_of(flow):
        _open_knot(made, knot)
        if len(made) > MOST_NODES:
            raise TooLarge("flow")
    return (word, inputs, tuple(made), outputs, assumes, keeps)


def _open_knot(made, knot):
    """Work a knot out in rounds, as many as it has nodes, each by the truths of the one ahead.

    In each round of settling at least one more node gets known, so after the last one all are.
    What a known node gets does not hang on the unknown ones, so these can begin with any truth.
    """
    made.append(("const", BOOL, made[knot[0]][2], 0))
    begun = len(made) - 1
    ahead = {node: begun for node in knot}
    for _ in range(len(knot) - 1):
        now = {}
        for node in knot:
            now[node] = len(made)
            made.append(_by(made[node], ahead))
        ahead = now
    for node in knot:
        made[node] = _by(made[node], ahead)


def _by(node, ahead):
    """Return a node with operands from the round ahead."""
    return node[:3] + tuple([ahead.get(each, each) for each in node[3:]])
