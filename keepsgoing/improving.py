"""Improved flows: without what is not needed, what is steady, and what is there twice."""

from keepsgoing.alike import alike
from keepsgoing.classes import merged
from keepsgoing.flows import hangs
from keepsgoing.renumbering import kept_flow
from keepsgoing.steady import settled, steady


def needed(flow):
    """Return the nodes that are shown or lead to what is shown by steps."""
    _, _, nodes, outputs, assumes, keeps = flow
    found = [False] * len(nodes)
    waiting = [node for _, node in outputs + assumes + keeps]
    while waiting:
        node = waiting.pop()
        if not found[node]:
            found[node] = True
            waiting.extend(hangs(flow, node))
            if nodes[node][0] == "delay":
                waiting.append(nodes[node][4])
    return tuple([node for node in range(len(nodes)) if found[node]])


def swept(flow):
    """Return the flow with the needed nodes alone."""
    return kept_flow(flow, needed(flow), list(range(len(flow[2]))))


def improved(flow):
    """Return a flow that shows the same, in which nothing is left to settle, merge or sweep."""
    before = None
    while flow != before:
        before = flow
        steadier = settled(flow, steady(flow))
        flow = swept(merged(steadier, alike(steadier)))
    return flow
