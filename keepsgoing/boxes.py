"""Boxes: units that are judged alone, and programs in which what these promise stands for them."""

from keepsgoing.deciding import decided
from keepsgoing.flatten import flat_with, flatten
from keepsgoing.flatuses import is_box
from keepsgoing.straightening import straight_flow


def alone(program, name):
    """Return the flat program of a unit alone."""
    word, kinds, units = program
    names = [unit[1] for unit in units]
    return flatten((word, kinds, units[:names.index(name) + 1]))


def boxed(program):
    """Return the boxed flat program."""
    boxes = _boxes_of(program)
    items = [("box",) + item[1:] if item in boxes else item for item in program[2][-1][4]]
    return flat_with(program, items)


def _boxes_of(program):
    """Return the items of the top that are boxes."""
    units = {unit[1]: unit for unit in program[2]}
    return [item for item in program[2][-1][4] if is_box(item, units)]


def unit_by_unit(program, most):
    """Tell whether the units in boxes, each alone, and the boxed flat program keep their contracts."""
    names = [item[2] for item in _boxes_of(program)]
    for unit in program[2]:
        if unit[1] in names and not _is_kept(alone(program, unit[1]), most):
            return ("open", unit[1])
    return ("kept",) if _is_kept(boxed(program), most) else ("open", "")


def _is_kept(flat, most):
    return decided(straight_flow(flat), most)[0] == "kept"
