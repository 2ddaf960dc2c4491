"""Contents of the memory of a flow: which states there are."""

from keepsgoing.errors import TooMany
from keepsgoing.flows import memory_of
from keepsgoing.kinds import has, how_many, values_of
from keepsgoing.shapes import is_tuple_of

MOST_STATES = 256


def cell_kinds(flow):
    """Return the kinds of the contents of the cells of memory; a count is a num."""
    nodes = flow[2]
    return tuple([_content_kind(nodes[node]) for node in memory_of(flow)])


def _content_kind(node):
    return node[1] if node[0] == "delay" else count_kind(node)


def count_kind(beat):
    """Return a num with the counts of a beat, from which it goes on by turns."""
    return ("num", 0, beat[3] - 1, 1, "wrap")


def is_state(kinds, state):
    """Tell whether a state has a value of its kind for each cell; it can be anything."""
    if not is_tuple_of(state, len(kinds)):
        return False
    return all(has(kind, content) for kind, content in zip(kinds, state))


def all_states(flow):
    """Return all states of a flow, reached or not, ascending."""
    kinds = cell_kinds(flow)
    many = 1
    for kind in kinds:
        many = many * how_many(kind)
    if many > MOST_STATES:
        raise TooMany("states")
    states = [()]
    for kind in kinds:
        states = [state + (content,) for state in states for content in values_of(kind)]
    return tuple(states)
