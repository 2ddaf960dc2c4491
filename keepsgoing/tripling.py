"""Tripled flows: each content is kept three times, so that one wrong copy does no harm."""

from keepsgoing.contents import count_kind
from keepsgoing.errors import TooLarge
from keepsgoing.flows import MOST_NODES, memory_of

COPIES = 3


def tripled(flow):
    """Return the tripled flow of a straight flow.

    Each delay or beat leaves its number to a node with the value that it would have; the copies
    stand behind all nodes, in the order of the cells.
    """
    word, inputs, nodes, outputs, assumes, keeps = flow
    made = list(nodes)
    for node in memory_of(flow):
        if nodes[node][0] == "delay":
            _triple_delay(made, node)
        else:
            _triple_beat(made, node)
    if len(made) > MOST_NODES:
        raise TooLarge("flow")
    return (word, inputs, tuple(made), outputs, assumes, keeps)


def _triple_delay(made, node):
    copies = _add_copies(made, made[node])
    made[node] = ("vote", made[node][1], made[node][2]) + copies


def _triple_beat(made, node):
    beat = made[node]
    _, kind, clock, n, k = beat
    count = count_kind(beat)
    after = len(made) + COPIES + 2
    copies = _add_copies(made, ("delay", count, clock, 0, after, ()))
    voted = _add(made, ("vote", count, clock) + copies)
    # With n 1 there is no count but 0.
    one = _add(made, ("const", count, clock, 1 if n > 1 else 0))
    _add(made, ("add", count, clock, voted, one))
    wanted = _add(made, ("const", count, clock, k))
    made[node] = ("eq", kind, clock, voted, wanted)


def _add_copies(made, delay):
    return tuple([_add(made, delay) for _ in range(COPIES)])


def _add(made, node):
    """Add a node, and return its number."""
    made.append(node)
    return len(made) - 1
