"""What the exprs of a tree become in a flat program."""

from keepsgoing.meanings import meaning_of

YES = ("truth", 1)
NO = ("truth", 0)


def flat_expr(expr, place):
    """Return the flat expr of an expr that stands at a place."""
    word = expr[0]
    if word in ("int", "truth"):
        return expr
    if word == "name":
        return place.seen_as(expr[1])
    if word in BECOMES:
        become = BECOMES[word]
        return become(expr, place)
    return (word,) + tuple([flat_expr(part, place) for part in expr[1:]])


def _value(value, place):
    if value[0] == "truth":
        return value
    names = place.meanings[value[1]][1]
    return ("mode", names, names.index(value[2]))


def _layer(layer, place):
    if layer[0] == "every":
        return layer + (place.home,)
    return ("is", place.flat_name(layer[1]), _value(layer[2], place))


def _last(expr, place):
    return ("last", flat_expr(expr[1], place), place.resets)


def _then(expr, place):
    return ("then", flat_expr(expr[1], place), flat_expr(expr[2], place), place.resets)


def _as(expr, place):
    return ("as", flat_expr(expr[1], place), meaning_of(expr[2], place.meanings))


def _when(expr, place):
    return ("when", flat_expr(expr[1], place), _layer(expr[2], place))


def _held(expr, place):
    first, second = flat_expr(expr[1], place), flat_expr(expr[2], place)
    return ("held", first, second, _layer(expr[3], place), place.resets)


def _merge(expr, place):
    arms = [(_value(value, place), flat_expr(part, place)) for value, part in expr[2]]
    arms = sorted(arms, key=lambda arm: arm[0])
    return ("merge", place.flat_name(expr[1]), tuple(arms))


def _coming(name, place):
    return place.flat_name(name) + "@here"


def _here(expr, place):
    return ("name", _coming(expr[1], place))


def _else(expr, place):
    here = _coming(expr[1], place)
    missing = ("when", flat_expr(expr[2], place), ("is", here, NO))
    return ("merge", here, ((NO, missing), (YES, place.seen_as(expr[1]))))


def _fresh(expr, place):
    _, name, many, part = expr
    return ("fresh", place.flat_name(name), many, flat_expr(part, place))


BECOMES = {
    "value": _value, "last": _last, "then": _then, "as": _as, "when": _when, "held": _held,
    "merge": _merge, "here": _here, "else": _else, "fresh": _fresh,
}
