"""Reading EXPRs."""

from keepsgoing.errors import BadText
from keepsgoing.readkinds import read_kind
from keepsgoing.signs import CALLS, COMPARING, LEVELS, MEANINGS, THEN
from keepsgoing.words import is_base_name, is_number


def read_expr(stream):
    """Take an EXPR and return its tree."""
    # Operands and operators wait on lists, so that only brackets nest calls.
    operands = [_read_front(stream)]
    waiting = []
    while stream.ahead() in LEVELS:
        level = LEVELS[stream.ahead()]
        _join_down_to(operands, waiting, level + 1 if level in (THEN, COMPARING) else level)
        if level == COMPARING and waiting and LEVELS[waiting[-1]] == COMPARING:
            break
        waiting.append(stream.take())
        operands.append(_read_front(stream))
    _join_down_to(operands, waiting, THEN)
    return operands[0]


def _join_down_to(operands, waiting, level):
    while waiting and LEVELS[waiting[-1]] >= level:
        right = operands.pop()
        left = operands.pop()
        operands.append((MEANINGS[waiting.pop()], left, right))


def _read_front(stream):
    words = []
    while stream.ahead() in ("not", "last", "-") and not _is_negative_number(stream):
        words.append("neg" if stream.ahead() == "-" else stream.ahead())
        stream.take()
    expr = _read_bottom(stream)
    for word in reversed(words):
        expr = (word, expr)
    return expr


def _is_negative_number(stream):
    return stream.ahead() == "-" and is_number(stream.ahead(1))


def _read_bottom(stream):
    token = stream.ahead()
    if stream.takes("-"):
        return ("int", -stream.want_number())
    if is_number(token):
        return ("int", stream.want_number())
    if token in ("true", "false"):
        return _read_truth(stream)
    if is_base_name(token):
        return _read_name(stream)
    if stream.takes("("):
        expr = read_expr(stream)
        stream.want(")")
        return expr
    if token in CALLS or token in OTHER_CALLS:
        return _read_call(stream)
    raise BadText(stream.at)


def _read_truth(stream):
    return ("truth", 1 if stream.want_one_of(("true", "false")) == "true" else 0)


def _read_name(stream):
    name = stream.want_name()
    if stream.takes("."):
        return ("value", name, stream.want_name())
    return ("name", name)


def _read_call(stream):
    word = stream.take()
    stream.want("(")
    if word in CALLS:
        expr = (word,) + _read_parts(stream, CALLS[word])
    else:
        read = OTHER_CALLS[word]
        expr = read(stream)
    stream.want(")")
    return expr


def _read_parts(stream, many):
    if many is None:
        return stream.want_some(read_expr)
    parts = [read_expr(stream)]
    while len(parts) < many:
        stream.want(",")
        parts.append(read_expr(stream))
    return tuple(parts)


def _read_as(stream):
    expr = read_expr(stream)
    stream.want(",")
    return ("as", expr, read_kind(stream))


def _read_when(stream):
    expr = read_expr(stream)
    stream.want(",")
    return ("when", expr, _read_layer(stream))


def _read_held(stream):
    first, second = _read_parts(stream, 2)
    stream.want(",")
    return ("held", first, second, _read_layer(stream))


def _read_layer(stream):
    if stream.takes("every"):
        many = stream.want_number()
        stream.want("from")
        return ("every", many, stream.want_number())
    name = stream.want_name()
    stream.want("is")
    return ("is", name, _read_value(stream))


def _read_value(stream):
    if stream.ahead() in ("true", "false"):
        return _read_truth(stream)
    name = stream.want_name()
    stream.want(".")
    return ("value", name, stream.want_name())


def _read_merge(stream):
    name = stream.want_name()
    stream.want(",")
    return ("merge", name, stream.want_some(_read_arm))


def _read_arm(stream):
    value = _read_value(stream)
    stream.want(":")
    return (value, read_expr(stream))


def _read_here(stream):
    return ("here", stream.want_name())


def _read_else(stream):
    name = stream.want_name()
    stream.want(",")
    return ("else", name, read_expr(stream))


def _read_fresh(stream):
    name = stream.want_name()
    stream.want(",")
    many = stream.want_number()
    stream.want(",")
    return ("fresh", name, many, read_expr(stream))


OTHER_CALLS = {
    "as": _read_as, "when": _read_when, "held": _read_held, "merge": _read_merge,
    "here": _read_here, "else": _read_else, "fresh": _read_fresh,
}
