"""Writing: from trees to their texts."""

from keepsgoing.signs import BOTTOM, CALLS, COMPARING, FRONT, FRONTS, LEVELS, SIGNS, THEN

LINE_ENDS = ("{", "}", ";")


def write_program(program):
    """Return the text of the tree of a program."""
    _, kinds, units = program
    tokens = []
    for name, kind in kinds:
        tokens.extend(["kind", name, "="] + _kind_tokens(kind) + [";"])
    for unit in units:
        tokens.extend(_unit_tokens(unit))
    return "".join([token + _gap(token) for token in tokens])


def _gap(token):
    return "\n" if token in LINE_ENDS else " "


def write_expr(expr):
    """Return the text of the tree of an expr."""
    return " ".join(expr_tokens(expr))


def write_kind(kind):
    """Return the text of a kind of a tree."""
    return " ".join(_kind_tokens(kind))


def _kind_tokens(kind):
    tokens = []
    while kind[0] == "row":
        tokens.extend(["row", str(kind[2]), "of"])
        kind = kind[1]
    if kind[0] == "bool":
        return tokens + ["bool"]
    if kind[0] == "named":
        return tokens + [kind[1]]
    if kind[0] == "mode":
        return tokens + ["mode", "("] + _listed([[name] for name in kind[1]]) + [")"]
    _, low, high, per, how = kind
    slow = [] if per == 1 else ["per", str(per)]
    return tokens + ["num"] + _int_tokens(low) + [".."] + _int_tokens(high) + slow + [how]


def _int_tokens(number):
    return ["-", str(-number)] if number < 0 else [str(number)]


def _listed(parts):
    tokens = []
    for part in parts:
        if tokens:
            tokens.append(",")
        tokens.extend(part)
    return tokens


def _unit_tokens(unit):
    _, name, ins, outs, items = unit
    tokens = ["unit", name, "("] + _listed([_in_tokens(each) for each in ins]) + [")"]
    tokens.extend(["gives", "("] + _listed([_declared(out, kind) for out, kind in outs]) + [")"])
    return tokens + _block([_item_tokens(item) for item in items])


def _in_tokens(each):
    name, kind, event = each
    return (["event"] if event == 1 else []) + _declared(name, kind)


def _declared(name, kind):
    return [name, ":"] + _kind_tokens(kind)


def _block(parts):
    tokens = ["{"]
    for part in parts:
        tokens.extend(part)
    return tokens + ["}"]


def _item_tokens(item):
    word = item[0]
    if word == "machine":
        return ["machine", item[1]] + _block([_state_tokens(state) for state in item[2]])
    if word == "local":
        return ["local"] + ([item[1]] if item[2] is None else _declared(item[1], item[2])) + [";"]
    if word == "set":
        return [item[1], "="] + expr_tokens(item[2]) + [";"]
    if word == "use":
        return _use_tokens(item)
    return [word] + expr_tokens(item[1]) + [";"]


def _use_tokens(item):
    _, names, unit, args, every = item
    tokens = ["use"] + _listed([[name] for name in names]) + ["=", unit]
    tokens.extend(_arguments([expr_tokens(arg) for arg in args]))
    if every is not None:
        tokens.extend(["every"] + expr_tokens(every))
    return tokens + [";"]


def _state_tokens(state):
    name, unless, items, until = state
    parts = [_turn_tokens("unless", turn) for turn in unless]
    parts.extend([_item_tokens(item) for item in items])
    parts.extend([_turn_tokens("until", turn) for turn in until])
    return ["state", name] + _block(parts)


def _turn_tokens(word, turn):
    expr, how, name = turn
    return [word] + expr_tokens(expr) + [how, name, ";"]


def expr_tokens(expr, floor=THEN):
    """Return the tokens of an expr, in parentheses if it is less tight than the floor."""
    word = expr[0]
    if word in SIGNS:
        level = LEVELS[SIGNS[word]]
        # then associates to the right, comparisons do not at all.
        left = level + 1 if level in (THEN, COMPARING) else level
        right = level if level == THEN else level + 1
        tokens = expr_tokens(expr[1], left) + [SIGNS[word]] + expr_tokens(expr[2], right)
    elif word in FRONTS:
        level = FRONT
        tokens = [FRONTS[word]] + _front_operand(word, expr[1])
    else:
        level = BOTTOM
        tokens = _bottom_tokens(expr)
    return tokens if level >= floor else ["("] + tokens + [")"]


def _front_operand(word, expr):
    # A sign ahead of a number would be read as a part of the number.
    if word == "neg" and expr[0] == "int" and expr[1] >= 0:
        return ["("] + expr_tokens(expr) + [")"]
    return expr_tokens(expr, FRONT)


def _bottom_tokens(expr):
    word = expr[0]
    if word == "int":
        return _int_tokens(expr[1])
    if word == "name":
        return [expr[1]]
    if word in ("truth", "value"):
        return _value_tokens(expr)
    if word in CALLS:
        return [word] + _arguments([expr_tokens(part) for part in expr[1:]])
    return [word] + _arguments(_other_arguments(expr))


def _arguments(parts):
    return ["("] + _listed(parts) + [")"]


def _value_tokens(value):
    if value[0] == "value":
        return [value[1], ".", value[2]]
    return ["true" if value[1] == 1 else "false"]


def _other_arguments(expr):
    word = expr[0]
    if word == "as":
        return [expr_tokens(expr[1]), _kind_tokens(expr[2])]
    if word == "when":
        return [expr_tokens(expr[1]), _layer_tokens(expr[2])]
    if word == "held":
        return [expr_tokens(expr[1]), expr_tokens(expr[2]), _layer_tokens(expr[3])]
    if word == "merge":
        return [[expr[1]]] + [_arm_tokens(arm) for arm in expr[2]]
    if word == "here":
        return [[expr[1]]]
    if word == "else":
        return [[expr[1]], expr_tokens(expr[2])]
    return [[expr[1]], [str(expr[2])], expr_tokens(expr[3])]


def _arm_tokens(arm):
    value, expr = arm
    return _value_tokens(value) + [":"] + expr_tokens(expr)


def _layer_tokens(layer):
    if layer[0] == "every":
        return ["every", str(layer[1]), "from", str(layer[2])]
    return [layer[1], "is"] + _value_tokens(layer[2])
