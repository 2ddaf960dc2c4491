"""Class papers: nodes of a straight flow that are alike, each with its leader."""

from keepsgoing.renumbering import kept_flow, renumbered
from keepsgoing.shapes import is_number_of


def judge_classes(flow, paper):
    """Tell whether each node is as its leader is, once all numbers are those of leaders."""
    nodes = flow[2]
    if len(paper) != len(nodes):
        return False
    for node, leader in enumerate(paper):
        if not is_number_of(leader, node + 1) or paper[leader] != leader:
            return False
    for node, leader in enumerate(paper):
        if leader != node and renumbered(nodes[node], paper) != renumbered(nodes[leader], paper):
            return False
    return True


def merged(flow, paper):
    """Return the flow of the leaders, for a paper that is taken."""
    kept = [node for node, leader in enumerate(paper) if node == leader]
    return kept_flow(flow, kept, paper)
