"""Rings: knots of the equations of a flat program, and whether they settle."""

from keepsgoing.clocksof import clocks_of
from keepsgoing.errors import Ring, TooMany, Unsettled
from keepsgoing.exprparts import listed, operands_of, own_names, own_resets
from keepsgoing.flathangs import Hanging
from keepsgoing.kinds import BOOL
from keepsgoing.kindsof import kinds_of
from keepsgoing.logic import LOGIC, least_open, settled_values

MOST_ENTERING = 8
MOST_OPERATIONS = 12


def check_rings(flat):
    """Raise the first fault of a knot of a flat program whose kinds and clocks are told."""
    kinds = kinds_of(flat)
    hanging = Hanging(flat, clocks_of(flat))
    for knot in hanging.knots():
        _check_knot(flat, kinds, knot)


def _check_knot(flat, kinds, knot):
    equations = [flat[2][at] for at in knot if at < len(flat[2])]
    names = tuple([equation[0] for equation in equations])
    exprs = [equation[4] for equation in equations]
    bools = all(kinds[at] == BOOL for at in knot[:len(names)])
    look = KnotLook(names)
    if len(names) < len(knot) or not bools or not all([look.takes(expr) for expr in exprs]):
        raise Ring(names)
    if len(look.entering) > MOST_ENTERING or look.operations > MOST_OPERATIONS:
        raise TooMany("ring")
    truths = least_open(_codes(names, exprs, look.entering), len(look.entering))
    if truths is not None:
        raise Unsettled(names, truths)


class KnotLook:
    """A look at the exprs of a knot, which finds its entering parts and its operations."""

    def __init__(self, names):
        self.names = {name: True for name in names}
        self.entering = []
        self.operations = 0

    def takes(self, expr):
        """Take in the expr of a name of the knot, and tell whether it is let."""
        parts = listed(expr)
        free = self._free_ones(parts)
        waiting = [len(parts) - 1]
        while waiting:
            at = waiting.pop()
            part, inner = parts[at]
            if free[at]:
                if part[0] != "truth" and part not in self.entering:
                    self.entering.append(part)
            elif part[0] in LOGIC:
                self.operations += 1
                waiting.extend(list(reversed(inner)))
            elif part[0] != "name":
                return False
        return True

    def _free_ones(self, parts):
        """Return for each part whether it makes its name hang on no name of the knot."""
        free = []
        still = []
        for part, inner in parts:
            own = all(name not in self.names for name in own_names(part))
            put_back = any(name in self.names for name in own_resets(part))
            still.append(not put_back and all(still[place] for place in inner))
            if part[0] == "last":
                free.append(still[-1])
            else:
                free.append(own and not put_back and all(free[place] for place in inner))
        return free


def settle(names, exprs, parts, truths):
    """Return what each name gets for the truths of the entering parts, None for unknown."""
    return settled_values(_codes(names, exprs, parts), truths)


def _codes(names, exprs, parts):
    """Return the exprs of a knot as codes for settled_values."""
    return [_code(names, expr, parts) for expr in exprs]


def _code(names, expr, parts):
    code = []
    waiting = [expr]
    while waiting:
        part = waiting.pop()
        if part in parts:
            code.append(("enter", parts.index(part)))
        elif part[0] == "truth":
            code.append(part)
        elif part[0] == "name":
            code.append(("name", names.index(part[1])))
        else:
            code.append((part[0], len(operands_of(part))))
            waiting.extend(operands_of(part))
    code.reverse()
    return code
