"""The steps that give a node its value, and those that keep it for the next tick."""

from keepsgoing.kinds import BOOL, is_row
from keepsgoing.ops import COUNTS


def copies(cell, other, many):
    """Return the steps that copy so many neighbouring cells."""
    return [("copy", cell + at, other + at) for at in range(many)]


def _do(op, cell, cells):
    """Return a step with an operation that uses no kind."""
    return ("do", op, BOOL, cell, cells)


def value_steps(layout, number):
    """Return the steps that give a node that is there its value; a delay is emptied already."""
    node = layout.nodes[number]
    rule = _operation if node[0] in COUNTS else RULES[node[0]]
    return rule(layout, number, node)


def store_steps(layout, number):
    """Return the steps by which a delay or a beat that is there takes its new content."""
    node = layout.nodes[number]
    memory = layout.memory[number]
    if node[0] == "delay":
        return copies(memory, layout.seats[node[4]], layout.sizes[number])
    count = ("num", 0, node[3] - 1, 1, "wrap")
    return [("put", layout.work, 1), ("do", "add", count, memory, (memory, layout.work))]


def _input(layout, number, node):
    return copies(layout.seats[number], layout.inputs[node[3]][0], layout.sizes[number])


def _here(layout, number, node):
    return [("copy", layout.seats[number], layout.inputs[node[3]][2])]


def _const(layout, number, node):
    cell = layout.seats[number]
    entries = node[3] if is_row(node[1]) else (node[3],)
    return [("put", cell + at, entry) for at, entry in enumerate(entries)]


def _when(layout, number, node):
    return copies(layout.seats[number], layout.seats[node[3]], layout.sizes[number])


def _delay(layout, number, node):
    return copies(layout.seats[number], layout.memory[number], layout.sizes[number])


def _beat(layout, number, node):
    test = _do("eq", layout.seats[number], (layout.memory[number], layout.work))
    return [("put", layout.work, node[4]), test]


def _merge(layout, number, node):
    chosen = layout.seats[node[3]]
    cell, size = layout.seats[number], layout.sizes[number]
    arms = [layout.seats[arm] for arm in node[4]]
    if layout.nodes[node[3]][1] == BOOL:
        return _picks(cell, chosen, (arms[1], arms[0]), size)
    steps = copies(cell, arms[-1], size)
    for value in reversed(range(len(arms) - 1)):
        taken = copies(cell, arms[value], size) + [("skip", len(steps))]
        steps = [("unless", chosen, value, len(taken), node[3])] + taken + steps
    return steps


def _picks(cell, test, others, size):
    """Return the steps that copy cells from the first or the second ones of others by a test."""
    first, second = others
    return [_do("pick", cell + at, (test, first + at, second + at)) for at in range(size)]


RULES = {
    "input": _input, "here": _here, "const": _const, "when": _when, "delay": _delay,
    "beat": _beat, "merge": _merge,
}


def _operation(layout, number, node):
    word = node[0]
    cells = tuple([layout.seats[each] for each in node[3:]])
    if word in SHAPED:
        shaped = SHAPED[word]
        return shaped(layout, number, cells)
    kind = node[1] if word in ("neg", "add", "sub", "mul", "div") else BOOL
    return [("do", word, kind, layout.seats[number], cells)]


def _first_operand(layout, number):
    """Return the kind of the first operand of a node."""
    return layout.nodes[layout.nodes[number][3]][1]


def _equal_steps(word, cell, cells, size, work):
    """Return the steps for eq or ne of neighbouring cells; work is a cell for a while."""
    joined = "and" if word == "eq" else "or"
    steps = [_do(word, cell, cells)]
    for at in range(1, size):
        steps.append(_do(word, work, (cells[0] + at, cells[1] + at)))
        steps.append(_do(joined, cell, (cell, work)))
    return steps


def _equal(layout, number, cells):
    size = layout.sizes[layout.nodes[number][3]]
    word = layout.nodes[number][0]
    return _equal_steps(word, layout.seats[number], cells, size, layout.work)


def _pick(layout, number, cells):
    test, first, second = cells
    return _picks(layout.seats[number], test, (first, second), layout.sizes[number])


def _vote(layout, number, cells):
    first, second, third = cells
    size = layout.sizes[number]
    test = layout.work + 1
    steps = _equal_steps("eq", test, (first, second), size, layout.work)
    return steps + _picks(layout.seats[number], test, (first, third), size)


def _as(layout, number, cells):
    per = _first_operand(layout, number)[3]
    return [("as", layout.nodes[number][1], per, layout.seats[number], cells[0])]


def _row(layout, number, cells):
    cell = layout.seats[number]
    return [("copy", cell + at, other) for at, other in enumerate(cells)]


def _index_per(layout, number):
    """Return the per of the index of an at or a put."""
    return layout.nodes[layout.nodes[number][4]][1][3]


def _at(layout, number, cells):
    base, index = cells
    size = _first_operand(layout, number)[2]
    return [("load", layout.seats[number], base, size, index, _index_per(layout, number))]


def _put(layout, number, cells):
    base, index, entry = cells
    cell, size = layout.seats[number], layout.sizes[number]
    stored = ("store", cell, size, index, _index_per(layout, number), entry)
    return copies(cell, base, size) + [stored]


def _over_row(layout, number, op, kind):
    """Return the steps that join the entries of the operand, a row, from the first one on."""
    base = layout.seats[layout.nodes[number][3]]
    cell = layout.seats[number]
    steps = [("copy", cell, base)]
    for at in range(1, _first_operand(layout, number)[2]):
        steps.append(("do", op, kind, cell, (cell, base + at)))
    return steps


def _sum(layout, number, cells):
    return _over_row(layout, number, "add", layout.nodes[number][1])


def _any(layout, number, cells):
    return _over_row(layout, number, "or", BOOL)


def _all(layout, number, cells):
    return _over_row(layout, number, "and", BOOL)


SHAPED = {
    "eq": _equal, "ne": _equal, "pick": _pick, "vote": _vote, "as": _as, "row": _row, "at": _at,
    "put": _put, "sum": _sum, "any": _any, "all": _all,
}
