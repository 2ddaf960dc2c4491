"""Looking for faults in the names and numbers of an expr."""

from keepsgoing.errors import BadNumber, BadUse, Unknown
from keepsgoing.kinds import MOST_ENTRIES, is_num
from keepsgoing.namekinds import check_kind
from keepsgoing.scopes import EVENT, MACHINE

MOST_TICKS = 12


def check_expr(expr, scope, meanings):
    """Look at an expr in a scope, from left to right."""
    word = expr[0]
    if word == "name":
        _check_name(expr[1], scope)
    elif word == "value":
        _check_value(expr, meanings)
    elif word in CHECKS:
        check = CHECKS[word]
        check(expr, scope, meanings)
    elif word not in ("int", "truth"):
        for part in expr[1:]:
            check_expr(part, scope, meanings)
        if word in ("row", "weave") and len(expr) - 1 > MOST_ENTRIES:
            raise BadNumber(len(expr) - 1)


def _check_name(name, scope):
    what = scope.what(name)
    if what is None:
        raise Unknown(name)
    if what == MACHINE or (what == EVENT and scope.is_state()):
        raise BadUse(name)


def _check_value(value, meanings):
    if value[0] == "truth":
        return
    _, kind, name = value
    if kind not in meanings:
        raise Unknown(kind)
    if meanings[kind][0] != "mode":
        raise BadUse(kind)
    if name not in meanings[kind][1]:
        raise Unknown(name)


def _check_parter(name, scope):
    _check_name(name, scope)
    if scope.is_state() and not scope.has_own(name):
        raise BadUse(name)


def _check_event(name, scope):
    what = scope.what(name)
    if what is None:
        raise Unknown(name)
    if what != EVENT or scope.is_state():
        raise BadUse(name)


def _check_layer(layer, scope, meanings):
    if layer[0] == "is":
        _check_parter(layer[1], scope)
        _check_value(layer[2], meanings)
        return
    _, many, start = layer
    if not 1 <= many <= MOST_TICKS:
        raise BadNumber(many)
    if start >= many:
        raise BadNumber(start)


def _check_as(expr, scope, meanings):
    check_expr(expr[1], scope, meanings)
    if not is_num(check_kind(expr[2], meanings)):
        raise BadUse("as")


def _check_when(expr, scope, meanings):
    check_expr(expr[1], scope, meanings)
    _check_layer(expr[2], scope, meanings)


def _check_held(expr, scope, meanings):
    check_expr(expr[1], scope, meanings)
    check_expr(expr[2], scope, meanings)
    _check_layer(expr[3], scope, meanings)


def _check_merge(expr, scope, meanings):
    _, name, arms = expr
    _check_parter(name, scope)
    for value, part in arms:
        _check_value(value, meanings)
        check_expr(part, scope, meanings)
    if not _are_all_values([value for value, _ in arms], meanings):
        raise BadUse(name)


def _are_all_values(values, meanings):
    if values[0][0] == "truth":
        return sorted(values) == [("truth", 0), ("truth", 1)]
    kind = values[0][1]
    return sorted(values) == sorted([("value", kind, name) for name in meanings[kind][1]])


def _check_here(expr, scope, meanings):
    _check_event(expr[1], scope)


def _check_else(expr, scope, meanings):
    _check_event(expr[1], scope)
    check_expr(expr[2], scope, meanings)


def _check_fresh(expr, scope, meanings):
    _, name, many, part = expr
    _check_event(name, scope)
    check_expr(part, scope, meanings)
    if many > MOST_TICKS:
        raise BadNumber(many)


CHECKS = {
    "as": _check_as, "when": _check_when, "held": _check_held, "merge": _check_merge,
    "here": _check_here, "else": _check_else, "fresh": _check_fresh,
}
