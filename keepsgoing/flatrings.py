"""Rings: knots of the equations of a flat program, and whether they settle."""

from keepsgoing.clocksof import clocks_of
from keepsgoing.errors import Ring, TooMany, Unsettled
from keepsgoing.flathangs import Hanging
from keepsgoing.flatknots import KnotLook, codes_of
from keepsgoing.kinds import BOOL
from keepsgoing.kindsof import kinds_of
from keepsgoing.logic import least_open, settled_values

MOST_ENTERING = 8
MOST_OPERATIONS = 12


def check_rings(flat):
    """Raise the first fault of a knot of a flat program whose kinds and clocks are told."""
    kinds = kinds_of(flat)
    hanging = Hanging(flat, clocks_of(flat))
    for knot in hanging.knots():
        _check_knot(flat, kinds, knot)


def _check_knot(flat, kinds, knot):
    equations = [flat[2][at] for at in knot if at < len(flat[2])]
    names = tuple([equation[0] for equation in equations])
    exprs = [equation[4] for equation in equations]
    bools = all(kinds[at] == BOOL for at in knot[:len(names)])
    look = KnotLook(names)
    if len(names) < len(knot) or not bools or not all([look.takes(expr) for expr in exprs]):
        raise Ring(names)
    if len(look.entering) > MOST_ENTERING or look.operations > MOST_OPERATIONS:
        raise TooMany("ring")
    truths = least_open(codes_of(names, exprs, look.entering), len(look.entering))
    if truths is not None:
        raise Unsettled(names, truths)


def settle(names, exprs, parts, truths):
    """Return what each name gets for the truths of the entering parts, None for unknown."""
    return settled_values(codes_of(names, exprs, parts), truths)
