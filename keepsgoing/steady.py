"""Steady papers: values that nodes of a straight flow have whenever they are there."""

from keepsgoing.flows import all_hangs
from keepsgoing.graphs import order_among
from keepsgoing.kinds import fit, has
from keepsgoing.ops import COUNTS, VALUE_RULES


def judge_steady(flow, paper):
    """Tell whether each claim of a paper is a value of its kind and has a reason."""
    nodes = flow[2]
    if len(paper) != len(nodes):
        return False
    for node, claim in zip(nodes, paper):
        if claim is not None and not has(node[1], claim):
            return False
    for node, claim in enumerate(paper):
        if claim is not None and claim != claim_for(nodes, node, paper):
            return False
    return True


def settled(flow, paper):
    """Return the flow with a const in the place of each node that claims something."""
    word, inputs, nodes, outputs, assumes, keeps = flow
    made = []
    for node, claim in zip(nodes, paper):
        made.append(node if claim is None else ("const", node[1], node[2], claim))
    return (word, inputs, tuple(made), outputs, assumes, keeps)


def steady(flow):
    """Return the greatest steady paper.

    All delays claim their first ones to begin with; then the claims without a reason are taken
    back, and those that had these as their reason.
    """
    nodes = flow[2]
    claims = [node[3] if node[0] == "delay" else None for node in nodes]
    for node in order_among(all_hangs(flow)):
        if nodes[node][0] != "delay":
            claims[node] = claim_for(nodes, node, claims)
    users = [[] for _ in nodes]
    for node in range(len(nodes)):
        for each in _seen_by(nodes[node]):
            users[each].append(node)
    waiting = list(range(len(nodes)))
    while waiting:
        node = waiting.pop()
        if claims[node] is not None and claims[node] != claim_for(nodes, node, claims):
            claims[node] = None
            waiting.extend(users[node])
    return tuple(claims)


def _seen_by(node):
    """Return the nodes at whose claims a node looks."""
    word = node[0]
    if word in COUNTS:
        return node[3:]
    if word == "when":
        return (node[3],)
    if word == "merge":
        return (node[3],) + node[4]
    return (node[4],) if word == "delay" else ()


def claim_for(nodes, node, paper):
    """Return the value that a node has a reason to claim by the claims of a paper, or None.

    If there are several reasons, they are for one value.
    """
    told = nodes[node]
    word = told[0]
    if word in COUNTS:
        return _by_operands(nodes, told, [paper[each] for each in told[3:]])
    if word in REASONS:
        reason = REASONS[word]
        return reason(told, paper)
    return None


def _const(node, paper):
    return node[3]


def _delay(node, paper):
    return node[3] if paper[node[4]] == node[3] else None


def _when(node, paper):
    return paper[node[3]]


def _merge(node, paper):
    chosen = paper[node[3]]
    if chosen is not None and paper[node[4][chosen]] is not None:
        return paper[node[4][chosen]]
    return _claimed_alike([paper[arm] for arm in node[4]])


def _beat(node, paper):
    return 1 if node[3] == 1 else None


REASONS = {"const": _const, "delay": _delay, "when": _when, "merge": _merge, "beat": _beat}


def _claimed_alike(claims):
    """Return what all claim alike; None if they do not."""
    return claims[0] if all(claim == claims[0] for claim in claims) else None


def _by_operands(nodes, node, claims):
    word, kind = node[:2]
    if None not in claims:
        kinds = tuple([nodes[each][1] for each in node[3:]])
        rule = VALUE_RULES[word]
        return rule(kinds, claims, kind)
    if word == "and" and 0 in claims:
        return 0
    if word == "or" and 1 in claims:
        return 1
    if word == "mul" and 0 in claims:
        return fit(kind, 0)
    if word == "pick":
        return _by_picking(claims)
    return None


def _by_picking(claims):
    if claims[0] is not None:
        return claims[1] if claims[0] == 1 else claims[2]
    return _claimed_alike(claims[1:])
