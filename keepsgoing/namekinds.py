"""Looking for faults in the kinds of a tree."""

from keepsgoing.errors import BadNumber, BadUse, Twice, Unknown
from keepsgoing.kinds import MOST_ENTRIES, MOST_NAMES

MOST_PER = 100


def check_kind(kind, meanings):
    """Look at a kind of a tree, with the meanings of the kind names, and return what it means."""
    if kind[0] == "named":
        if kind[1] not in meanings:
            raise Unknown(kind[1])
        return meanings[kind[1]]
    if kind[0] == "num":
        _check_num(kind)
    if kind[0] == "mode":
        _check_mode(kind[1])
    if kind[0] == "row":
        return _check_row(kind, meanings)
    return kind


def _check_num(kind):
    _, low, high, per, _ = kind
    if high < low:
        raise BadNumber(high)
    if not 1 <= per <= MOST_PER:
        raise BadNumber(per)


def _check_mode(names):
    if len(names) > MOST_NAMES:
        raise BadNumber(len(names))
    check_different(names)


def check_different(names):
    """Raise Twice for the first name that one ahead of it is."""
    for at, name in enumerate(names):
        if name in names[:at]:
            raise Twice(name)


def _check_row(kind, meanings):
    # Rows of rows are told from the innermost one on, so no calls nest.
    sizes = []
    while kind[0] == "row":
        sizes.append(kind[2])
        kind = kind[1]
    meaning = check_kind(kind, meanings)
    for size in reversed(sizes):
        if meaning[0] == "row":
            raise BadUse("row")
        if not 1 <= size <= MOST_ENTRIES:
            raise BadNumber(size)
        meaning = ("row", meaning, size)
    return meaning
