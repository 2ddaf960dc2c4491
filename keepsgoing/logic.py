"""Truths of which some are unknown: what names get that are told by each other."""

TRUTHS = (0, 1)


def _not(a):
    return None if a is None else 1 - a


def _and(a, b):
    if a == 0 or b == 0:
        return 0
    return 1 if a == 1 and b == 1 else None


def _or(a, b):
    if a == 1 or b == 1:
        return 1
    return 0 if a == 0 and b == 0 else None


def _xor(a, b):
    return None if a is None or b is None else a ^ b


def _pick(a, b, c):
    if a is None:
        return b if b == c else None
    return b if a == 1 else c


LOGIC = {"not": _not, "and": _and, "or": _or, "xor": _xor, "pick": _pick}


def truth_of(word, operands):
    """Return the truth of an operation of LOGIC, None for unknown."""
    rule = LOGIC[word]
    return rule(*operands)


def settled_values(codes, truths):
    """Return what each name gets, None for unknown.

    A code tells the expr of a name, operands ahead of their operations: `("enter", n)` for the
    truth number n, `("truth", b)`, `("name", n)` for the name number n, and `(word, many)` for an
    operation with so many operands.
    """
    known = [None] * len(codes)
    changed = True
    while changed:
        changed = False
        for at, code in enumerate(codes):
            truth = _run(code, truths, known)
            if truth != known[at]:
                known[at] = truth
                changed = True
    return tuple(known)


def _run(code, truths, known):
    stack = []
    for word, number in code:
        if word == "enter":
            stack.append(truths[number])
        elif word == "truth":
            stack.append(number)
        elif word == "name":
            stack.append(known[number])
        else:
            operands = [stack.pop() for _ in range(number)]
            operands.reverse()
            stack.append(truth_of(word, operands))
    return stack[0]


def least_open(codes, many):
    """Return the least tuple of so many truths for which some name stays unknown, or None."""
    rows = [()]
    for _ in range(many):
        rows = [row + (truth,) for row in rows for truth in TRUTHS]
    for row in rows:
        if None in settled_values(codes, row):
            return row
    return None
