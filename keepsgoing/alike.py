"""The greatest class paper of a straight flow."""

from keepsgoing.ops import COUNTS
from keepsgoing.refining import Refining


def alike(flow):
    """Return the greatest class paper."""
    nodes = flow[2]
    forms = [_form(node) for node in nodes]
    links = [_links(node) for node in nodes]
    sets = [node[5] if node[0] == "delay" else () for node in nodes]
    leaders = {}
    paper = []
    for node, number in enumerate(Refining(forms, links, sets).refined()):
        leaders.setdefault(number, node)
        paper.append(leaders[number])
    return tuple(paper)


def _form(node):
    """Return what a node is but for the numbers of nodes in it.

    Of its clock only the last pair counts, since the node in it has the other pairs.
    """
    word, kind, clock = node[:3]
    value = clock[-1][1] if clock else None
    if word in COUNTS:
        return (word, kind, value, len(node))
    if word in ("when", "merge"):
        return (word, kind, value)
    if word == "delay":
        return (word, kind, value, node[3])
    return (word, kind, value) + node[3:]


def _links(node):
    word, _, clock = node[:3]
    found = [clock[-1][0]] if clock else []
    if word in COUNTS:
        found.extend(node[3:])
    elif word == "when":
        found.append(node[3])
    elif word == "merge":
        found.append(node[3])
        found.extend(node[4])
    elif word == "delay":
        found.append(node[4])
    return found
