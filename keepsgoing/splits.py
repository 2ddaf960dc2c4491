"""Splits: the nodes of a straight flow, each with the controller to which it belongs."""

from keepsgoing.flows import hangs


def foreign(flow, split, controller):
    """Return the nodes of other controllers that this one needs, ascending."""
    found = {}
    for number, node in enumerate(flow[2]):
        if split[number] == controller:
            needs = hangs(flow, number)
            if node[0] == "delay":
                needs = needs + (node[4],)
            for each in needs:
                if split[each] != controller:
                    found[each] = True
    return tuple(sorted(found))


def crossing(flow, split):
    """Return the nodes that are foreign to some controller, ascending."""
    found = {}
    for controller in range(controllers(split)):
        for node in foreign(flow, split, controller):
            found[node] = True
    return tuple(sorted(found))


def early(flow, node):
    """Tell whether the value of a node at the next tick is known when a tick is done."""
    told = flow[2][node]
    return told[0] == "delay" and told[2] == () and told[5] == ()


def controllers(split):
    """Return the number of controllers of a split."""
    return max(split) + 1
