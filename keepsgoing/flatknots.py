"""A look at the exprs of a knot of a flat program."""

from keepsgoing.exprparts import listed, operands_of, own_names, own_resets, places_from_left
from keepsgoing.logic import LOGIC


class KnotLook:
    """A look at the exprs of a knot, which finds its entering parts and its operations.

    places has `(expr, part, number)` for each place at which the entering part with the number
    stands, and free has a list for each expr, which tells whether its listed parts are free.
    """

    def __init__(self, names):
        self.names = {name: True for name in names}
        self.entering = []
        self.places = []
        self.free = []
        self.operations = 0

    def takes(self, expr):
        """Take in the expr of a name of the knot, and tell whether it is let."""
        parts = listed(expr)
        free = self._free_ones(parts)
        self.free.append(free)
        inside = {len(parts) - 1: True}
        for at in places_from_left(parts):
            part, inner = parts[at]
            if at in inside:
                if free[at]:
                    self._enter(part, at)
                elif part[0] in LOGIC:
                    self.operations += 1
                    for place in inner:
                        inside[place] = True
                elif part[0] != "name":
                    return False
        return True

    def _enter(self, part, at):
        if part[0] == "truth":
            return
        if part not in self.entering:
            self.entering.append(part)
        self.places.append((len(self.free) - 1, at, self.entering.index(part)))

    def _free_ones(self, parts):
        """Return for each part whether it makes its name hang on no name of the knot."""
        free = []
        still = []
        for part, inner in parts:
            own = all(name not in self.names for name in own_names(part))
            put_back = any(name in self.names for name in own_resets(part))
            still.append(not put_back and all(still[place] for place in inner))
            if part[0] == "last":
                free.append(still[-1])
            else:
                free.append(own and not put_back and all(free[place] for place in inner))
        return free


def codes_of(names, exprs, parts):
    """Return the exprs of the names of a knot as codes for settled_values."""
    return [_code(names, expr, parts) for expr in exprs]


def _code(names, expr, parts):
    code = []
    waiting = [expr]
    while waiting:
        part = waiting.pop()
        if part in parts:
            code.append(("enter", parts.index(part)))
        elif part[0] == "truth":
            code.append(part)
        elif part[0] == "name":
            code.append(("name", names.index(part[1])))
        else:
            code.append((part[0], len(operands_of(part))))
            waiting.extend(operands_of(part))
    code.reverse()
    return code
