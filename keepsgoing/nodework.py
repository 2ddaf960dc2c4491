"""What a node of a flow does in a tick."""

from keepsgoing.flows import memory_of
from keepsgoing.ops import COUNTS, VALUE_RULES


def beginning_of(flow):
    """Return the contents with which a run of a flow begins."""
    nodes = flow[2]
    return tuple([nodes[at][3] if nodes[at][0] == "delay" else 0 for at in memory_of(flow)])


def cells_of(flow):
    """Return a dict with the cell of memory of each node that has one."""
    return {node: cell for cell, node in enumerate(memory_of(flow))}


def worker_of(flow, number, cells):
    """Return a function that tells the value of a node that is there.

    It is passed the values of the nodes, the row of the tick and the contents.
    """
    node = flow[2][number]
    if node[0] in COUNTS:
        return _operation(flow[2], node)
    if node[0] == "delay":
        return _content(cells[number])
    if node[0] == "beat":
        return _beat(cells[number], node[4])
    make = MAKERS[node[0]]
    return make(node)


def _operation(nodes, node):
    rule = VALUE_RULES[node[0]]
    operands = node[3:]
    kinds = tuple([nodes[each][1] for each in operands])
    told = node[1]
    return lambda entries, row, contents: rule(kinds, [entries[k] for k in operands], told)


def _content(cell):
    return lambda entries, row, contents: contents[cell]


def _beat(cell, k):
    return lambda entries, row, contents: 1 if contents[cell] == k else 0


def _input(node):
    number = node[3]
    return lambda entries, row, contents: row[number]


def _here(node):
    number = node[3]
    return lambda entries, row, contents: 0 if row[number] is None else 1


def _const(node):
    value = node[3]
    return lambda entries, row, contents: value


def _when(node):
    a = node[3]
    return lambda entries, row, contents: entries[a]


def _merge(node):
    c = node[3]
    arms = node[4]
    return lambda entries, row, contents: entries[arms[entries[c]]]


MAKERS = {"input": _input, "here": _here, "const": _const, "when": _when, "merge": _merge}
