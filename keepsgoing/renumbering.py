"""Nodes of flows with other numbers, and flows of which only some nodes are kept."""

from keepsgoing.ops import COUNTS


def renumbered(node, numbers):
    """Return a node in which each number of a node is replaced; numbers has the new ones."""
    word, kind, clock = node[:3]
    start = (word, kind, tuple([(numbers[each], value) for each, value in clock]))
    if word in COUNTS:
        return start + tuple([numbers[each] for each in node[3:]])
    if word == "when":
        return start + (numbers[node[3]],)
    if word == "merge":
        return start + (numbers[node[3]], tuple([numbers[each] for each in node[4]]))
    if word == "delay":
        resets = tuple(sorted(set([numbers[each] for each in node[5]])))
        return start + (node[3], numbers[node[4]], resets)
    return start + node[3:]


def kept_flow(flow, kept, leaders):
    """Return a flow with the kept nodes alone, each other one replaced by its leader, a kept one.

    What is kept can lead to nodes whose leader is None only where it does not look.
    """
    word, inputs, nodes, outputs, assumes, keeps = flow
    places = {node: place for place, node in enumerate(kept)}
    numbers = [places.get(leader) for leader in leaders]
    made = tuple([renumbered(nodes[node], numbers) for node in kept])
    shown = [tuple([(name, numbers[node]) for name, node in each])
             for each in (outputs, assumes, keeps)]
    return (word, inputs, made, shown[0], shown[1], shown[2])
