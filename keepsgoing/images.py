"""Images: what a machine runs, and whether it is right."""

from keepsgoing.kinds import BOOL, MOST_ENTRIES, is_num
from keepsgoing.ops import COUNTS
from keepsgoing.shapes import are_all_tuples, is_int, is_number_of, is_tuple_of, is_within

MOST_CELLS = 60000
MOST_STEPS = 20000000
MOST_PER = 100
FITTED = ("neg", "add", "sub", "mul", "div")
LOGICAL = ("not", "and", "or", "xor", "eq", "ne", "lt", "le", "min", "max", "mid", "pick", "vote")


def is_image(image):
    """Tell whether an image is right; its numbers, words and lengths can be anything."""
    if not is_tuple_of(image, 6) or image[0] != "image":
        return False
    _, cells, kept, inputs, shown, code = image
    if not isinstance(cells, tuple) or not isinstance(code, tuple):
        return False
    many = len(cells)
    if not 1 <= many <= MOST_CELLS or not all(is_int(cell) for cell in cells):
        return False
    if not is_within(kept, 0, many) or len(code) > MOST_STEPS:
        return False
    if not are_all_tuples(inputs, 3) or not all(_is_input(many, each) for each in inputs):
        return False
    if not are_all_tuples(shown, 3) or not all(_is_shown(many, each) for each in shown):
        return False
    return _is_code(many, code)


def _is_code(many, code):
    left = len(code)
    for step in code:
        left -= 1
        if not isinstance(step, tuple) or not step or not isinstance(step[0], str):
            return False
        if step[0] not in CHECKS:
            return False
        size, check = CHECKS[step[0]]
        if len(step) != size or not check(many, left, step):
            return False
    return True


def _are_cells(many, first, size):
    """Tell whether the cells from a first one on exist, so many as the size tells."""
    if not is_within(size, 1, MOST_ENTRIES):
        return False
    return is_number_of(first, many) and first + size <= many


def _is_value_place(many, cell, size):
    return _are_cells(many, cell, 1 if size is None else size)


def _is_input(many, given):
    cell, size, here = given
    if not _is_value_place(many, cell, size):
        return False
    return here is None or is_number_of(here, many)


def _is_shown(many, shown):
    cell, size, guards = shown
    if not _is_value_place(many, cell, size) or not are_all_tuples(guards, 2):
        return False
    return all(is_number_of(guard, many) and is_int(value) for guard, value in guards)


def _is_put(many, left, step):
    return is_number_of(step[1], many) and is_int(step[2])


def _is_copy(many, left, step):
    return is_number_of(step[1], many) and is_number_of(step[2], many)


def _is_do(many, left, step):
    _, op, kind, cell, cells = step
    if op in FITTED:
        if not is_num(kind):
            return False
    elif op not in LOGICAL or kind != BOOL:
        return False
    if not is_tuple_of(cells, COUNTS[op]):
        return False
    return is_number_of(cell, many) and all(is_number_of(each, many) for each in cells)


def _is_as(many, left, step):
    _, kind, per, cell, other = step
    if not is_num(kind) or not is_within(per, 1, MOST_PER):
        return False
    return is_number_of(cell, many) and is_number_of(other, many)


def _is_load(many, left, step):
    _, cell, base, size, other, per = step
    return _is_row_step(many, (base, size, other, per, cell))


def _is_store(many, left, step):
    return _is_row_step(many, step[1:])


def _is_row_step(many, told):
    base, size, other, per, cell = told
    if not _are_cells(many, base, size) or not is_within(per, 1, MOST_PER):
        return False
    return is_number_of(other, many) and is_number_of(cell, many)


def _is_unless(many, left, step):
    _, cell, number, passed, node = step
    if not is_number_of(cell, many) or not is_int(number):
        return False
    return is_within(passed, 0, left) and (node is None or is_int(node))


def _is_skip(many, left, step):
    return is_within(step[1], 0, left)


# How many parts a step with this word has, and who looks at it.
CHECKS = {
    "put": (3, _is_put), "copy": (3, _is_copy), "do": (5, _is_do), "as": (5, _is_as),
    "load": (6, _is_load), "store": (6, _is_store), "unless": (5, _is_unless),
    "skip": (2, _is_skip),
}
