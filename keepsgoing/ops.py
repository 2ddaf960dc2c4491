"""The operations: which kinds they take, and what they result in."""

from keepsgoing.kinds import BOOL, MOST_ENTRIES, fit, is_num, is_row, zero

# How many operands an operation takes; a row takes 1 to 6.
COUNTS = {
    "not": 1, "and": 2, "or": 2, "xor": 2, "eq": 2, "ne": 2, "lt": 2, "le": 2,
    "neg": 1, "add": 2, "sub": 2, "mul": 2, "div": 2, "min": 2, "max": 2, "mid": 3,
    "as": 1, "pick": 3, "vote": 3, "row": None, "at": 2, "put": 3, "sum": 1,
    "any": 1, "all": 1,
}


def _alike(kinds):
    return all(kind == kinds[0] for kind in kinds)


def _like_nums(kinds):
    return is_num(kinds[0]) and _alike(kinds)


def _logic_kind(kinds, told):
    return BOOL if kinds[0] == BOOL and _alike(kinds) else None


def _equal_kind(kinds, told):
    return BOOL if _alike(kinds) else None


def _order_kind(kinds, told):
    return BOOL if _like_nums(kinds) else None


def _number_kind(kinds, told):
    return kinds[0] if _like_nums(kinds) else None


def _as_kind(kinds, told):
    return told if is_num(kinds[0]) and is_num(told) else None


def _pick_kind(kinds, told):
    return kinds[1] if kinds[0] == BOOL and kinds[1] == kinds[2] else None


def _vote_kind(kinds, told):
    return kinds[0] if _alike(kinds) else None


def _row_kind(kinds, told):
    if is_row(kinds[0]) or not _alike(kinds) or len(kinds) > MOST_ENTRIES:
        return None
    return ("row", kinds[0], len(kinds))


def _at_kind(kinds, told):
    return kinds[0][1] if is_row(kinds[0]) and is_num(kinds[1]) else None


def _put_kind(kinds, told):
    entry = _at_kind(kinds, told)
    return kinds[0] if entry is not None and entry == kinds[2] else None


def _sum_kind(kinds, told):
    return kinds[0][1] if is_row(kinds[0]) and is_num(kinds[0][1]) else None


def _some_kind(kinds, told):
    return BOOL if is_row(kinds[0]) and kinds[0][1] == BOOL else None


KIND_RULES = {
    "not": _logic_kind, "and": _logic_kind, "or": _logic_kind, "xor": _logic_kind,
    "eq": _equal_kind, "ne": _equal_kind, "lt": _order_kind, "le": _order_kind,
    "neg": _number_kind, "add": _number_kind, "sub": _number_kind, "mul": _number_kind,
    "div": _number_kind, "min": _number_kind, "max": _number_kind, "mid": _number_kind,
    "as": _as_kind, "pick": _pick_kind, "vote": _vote_kind, "row": _row_kind,
    "at": _at_kind, "put": _put_kind, "sum": _sum_kind, "any": _some_kind, "all": _some_kind,
}


def result_kind(op, kinds, told=None):
    """Return the kind of the result; None if the operation does not take such operands."""
    if op not in COUNTS or not kinds:
        return None
    if COUNTS[op] is not None and len(kinds) != COUNTS[op]:
        return None
    rule = KIND_RULES[op]
    return rule(kinds, told)


def _place(kind, number):
    return number // kind[3]


def _not(kinds, values, told):
    return 1 - values[0]


def _and(kinds, values, told):
    return values[0] & values[1]


def _or(kinds, values, told):
    return values[0] | values[1]


def _xor(kinds, values, told):
    return values[0] ^ values[1]


def _eq(kinds, values, told):
    return 1 if values[0] == values[1] else 0


def _ne(kinds, values, told):
    return 1 if values[0] != values[1] else 0


def _lt(kinds, values, told):
    return 1 if values[0] < values[1] else 0


def _le(kinds, values, told):
    return 1 if values[0] <= values[1] else 0


def _neg(kinds, values, told):
    return fit(kinds[0], -values[0])


def _add(kinds, values, told):
    return fit(kinds[0], values[0] + values[1])


def _sub(kinds, values, told):
    return fit(kinds[0], values[0] - values[1])


def _mul(kinds, values, told):
    return fit(kinds[0], values[0] * values[1] // kinds[0][3])


def _div(kinds, values, told):
    kind = kinds[0]
    over, under = values
    if under != 0:
        return fit(kind, over * kind[3] // under)
    if over == 0:
        return zero(kind)
    return kind[2] if over > 0 else kind[1]


def _min(kinds, values, told):
    return min(values[0], values[1])


def _max(kinds, values, told):
    return max(values[0], values[1])


def _mid(kinds, values, told):
    return sorted(values)[1]


def _as(kinds, values, told):
    return fit(told, values[0] * told[3] // kinds[0][3])


def _pick(kinds, values, told):
    return values[1] if values[0] == 1 else values[2]


def _vote(kinds, values, told):
    return values[0] if values[0] == values[1] else values[2]


def _row(kinds, values, told):
    return tuple(values)


def _at(kinds, values, told):
    row = values[0]
    place = _place(kinds[1], values[1])
    return row[min(max(place, 0), len(row) - 1)]


def _put(kinds, values, told):
    row = values[0]
    place = _place(kinds[1], values[1])
    if not 0 <= place < len(row):
        return row
    return row[:place] + (values[2],) + row[place + 1:]


def _sum(kinds, values, told):
    total = values[0][0]
    for entry in values[0][1:]:
        total = fit(kinds[0][1], total + entry)
    return total


def _any(kinds, values, told):
    return max(values[0])


def _all(kinds, values, told):
    return min(values[0])


VALUE_RULES = {
    "not": _not, "and": _and, "or": _or, "xor": _xor, "eq": _eq, "ne": _ne, "lt": _lt,
    "le": _le, "neg": _neg, "add": _add, "sub": _sub, "mul": _mul, "div": _div,
    "min": _min, "max": _max, "mid": _mid, "as": _as, "pick": _pick, "vote": _vote,
    "row": _row, "at": _at, "put": _put, "sum": _sum, "any": _any, "all": _all,
}


def result(op, kinds, values, told=None):
    """Return the value of the result, for operands that the operation takes."""
    rule = VALUE_RULES[op]
    return rule(kinds, values, told)
