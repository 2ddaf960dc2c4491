"""From a flow, an order and a seating to an image."""

from keepsgoing.flows import memory_of
from keepsgoing.layouts import Layout
from keepsgoing.nodesteps import copies, store_steps, value_steps


def image_of(flow, order, seating):
    """Return the image of a flow, for an order and a seating that are taken."""
    _, _, _, outputs, assumes, keeps = flow
    layout = Layout(flow, seating)
    code = []
    _add_values(layout, order, code)
    _add_stores(layout, memory_of(flow), code)
    shown = [layout.shown_place(node) for _, node in outputs + assumes + keeps]
    cells = tuple(layout.beginning)
    return ("image", cells, layout.kept, tuple(layout.inputs), tuple(shown), tuple(code))


def _has_resets(node):
    return node[0] == "delay" and node[5] != ()


def _add_values(layout, order, code):
    """Add the steps that give the nodes their values; neighbours with one clock share a look."""
    place = 0
    while place < len(order):
        node = layout.nodes[order[place]]
        if _has_resets(node):
            _add_emptied(layout, order[place], code)
            place += 1
            continue
        body = []
        clock = node[2]
        while place < len(order):
            node = layout.nodes[order[place]]
            if node[2] != clock or _has_resets(node):
                break
            body.extend(value_steps(layout, order[place]))
            place += 1
        _add_guarded(layout, clock, body, code)


def _add_stores(layout, memory, code):
    """Add the steps behind all values: delays and beats that are there take their contents."""
    place = 0
    while place < len(memory):
        clock = layout.nodes[memory[place]][2]
        body = []
        while place < len(memory) and layout.nodes[memory[place]][2] == clock:
            body.extend(store_steps(layout, memory[place]))
            place += 1
        _add_guarded(layout, clock, body, code)


def _add_guarded(layout, clock, body, code):
    """Add some steps that are passed over if a clock is not there."""
    for at, (node, value) in enumerate(clock):
        many = len(clock) - at - 1 + len(body)
        code.append(("unless", layout.seats[node], value, many, node))
    code.extend(body)


def _add_emptied(layout, number, code):
    """Add the steps of a delay with resets, which is emptied whether it is there or not.

    The clock of a reset is a beginning of that of the delay, so one way through the clock of the
    delay comes by all resets that are there.
    """
    _, _, clock, first, _, resets = layout.nodes[number]
    memory = layout.memory[number]
    size = layout.sizes[number]
    entries = list(first) if isinstance(first, tuple) else [first]
    emptied = [("put", memory + at, entry) for at, entry in enumerate(entries)]
    levels = [[] for _ in range(len(clock) + 1)]
    for reset in resets:
        levels[len(layout.nodes[reset][2])].append(reset)
    blocks = []
    for level in levels:
        block = []
        for reset in level:
            block.append(("unless", layout.seats[reset], 1, size, reset))
            block.extend(emptied)
        blocks.append(block)
    blocks[-1].extend(copies(layout.seats[number], memory, size))
    left = sum([len(block) for block in blocks]) + len(clock)
    for level, block in enumerate(blocks):
        code.extend(block)
        left -= len(block)
        if level < len(clock):
            left -= 1
            node, value = clock[level]
            code.append(("unless", layout.seats[node], value, left, node))
