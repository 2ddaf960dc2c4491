"""The steps of the machine: each as a function that is passed the cells.

The function does the step, and tells how many steps the machine goes on.
"""

from keepsgoing.ops import VALUE_RULES

TRUTHS = ("not", "and", "or", "xor")


def step_worker(step):
    """Return the function of a step."""
    make = MAKERS[step[0]]
    return make(step)


def _put(step):
    _, cell, number = step

    def put_number(cells):
        cells[cell] = number
        return 1
    return put_number


def _copy(step):
    _, cell, other = step

    def copy_cell(cells):
        cells[cell] = cells[other]
        return 1
    return copy_cell


def _do(step):
    _, op, kind, cell, operands = step
    if op in TRUTHS:
        return _logic(op, cell, operands)
    if op == "pick":
        return _pick(cell, operands)
    rule = VALUE_RULES[op]
    kinds = (kind,) * len(operands)

    def do_operation(cells):
        cells[cell] = rule(kinds, [cells[each] for each in operands], kind)
        return 1
    return do_operation


def _logic(op, cell, operands):
    rule = VALUE_RULES[op]

    def do_logic(cells):
        truths = [0 if cells[each] == 0 else 1 for each in operands]
        cells[cell] = rule((), truths, None)
        return 1
    return do_logic


def _pick(cell, operands):
    test, first, second = operands

    def do_pick(cells):
        cells[cell] = cells[second] if cells[test] == 0 else cells[first]
        return 1
    return do_pick


def _as(step):
    _, kind, per, cell, other = step
    rule = VALUE_RULES["as"]
    # Of the kind from which it comes only its per counts.
    kinds = (("num", 0, 0, per, "wrap"),)

    def do_as(cells):
        cells[cell] = rule(kinds, [cells[other]], kind)
        return 1
    return do_as


def _load(step):
    _, cell, base, size, other, per = step

    def load_entry(cells):
        place = min(max(cells[other] // per, 0), size - 1)
        cells[cell] = cells[base + place]
        return 1
    return load_entry


def _store(step):
    _, base, size, other, per, cell = step

    def store_entry(cells):
        place = cells[other] // per
        if 0 <= place < size:
            cells[base + place] = cells[cell]
        return 1
    return store_entry


def _unless(step):
    _, cell, number, many, _ = step

    def pass_unless(cells):
        return 1 if cells[cell] == number else 1 + many
    return pass_unless


def _skip(step):
    many = step[1]
    return lambda cells: 1 + many


MAKERS = {
    "put": _put, "copy": _copy, "do": _do, "as": _as, "load": _load, "store": _store,
    "unless": _unless, "skip": _skip,
}
