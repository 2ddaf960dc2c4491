"""Kinds: which values there are, and how integers are fitted to them."""

from keepsgoing.errors import TooMany
from keepsgoing.shapes import are_different, is_tuple_of, is_within
from keepsgoing.words import is_base_name

BOOL = ("bool",)
MOST_NAMES = 8
MOST_ENTRIES = 6
MOST_VALUES = 4096


def is_kind(thing):
    """Tell whether the thing is a kind; it can be anything."""
    if is_tuple_of(thing, 3) and thing[0] == "row":
        return is_plain(thing[1]) and is_within(thing[2], 1, MOST_ENTRIES)
    return is_plain(thing)


def is_plain(thing):
    """Tell whether the thing is a kind, but no row; it can be anything."""
    return thing == BOOL or is_num(thing) or is_mode(thing)


def is_num(thing):
    """Tell whether the thing is a num kind; it can be anything."""
    if not is_tuple_of(thing, 5) or thing[0] != "num":
        return False
    low, high, per, how = thing[1:]
    bounds = is_within(low, -1000, 1000) and is_within(high, -1000, 1000) and low <= high
    return bounds and is_within(per, 1, 100) and how in ("wrap", "hold")


def is_mode(thing):
    """Tell whether the thing is a mode kind; it can be anything."""
    if not is_tuple_of(thing, 2) or thing[0] != "mode" or not isinstance(thing[1], tuple):
        return False
    names = thing[1]
    named = 1 <= len(names) <= MOST_NAMES and all(is_base_name(name) for name in names)
    return named and are_different(names)


def is_row(kind):
    """Tell whether a kind is that of rows."""
    return kind[0] == "row"


def has(kind, value):
    """Tell whether the value is one of the kind."""
    if is_row(kind):
        return is_tuple_of(value, kind[2]) and all(has(kind[1], entry) for entry in value)
    low, high = _ends(kind)
    return is_within(value, low, high)


def how_many(kind):
    """Return the number of the values of a kind."""
    if is_row(kind):
        many = 1
        for _ in range(kind[2]):
            many = many * how_many(kind[1])
        return many
    low, high = _ends(kind)
    return high - low + 1


def values_of(kind):
    """Return all values of a kind, ascending."""
    if how_many(kind) > MOST_VALUES:
        raise TooMany("values")
    if is_row(kind):
        return _rows_of(values_of(kind[1]), kind[2])
    low, high = _ends(kind)
    return tuple(range(low, high + 1))


def _rows_of(entries, size):
    rows = [()]
    for _ in range(size):
        rows = [row + (entry,) for row in rows for entry in entries]
    return tuple(rows)


def _ends(kind):
    if kind[0] == "num":
        return kind[1], kind[2]
    if kind[0] == "mode":
        return 0, len(kind[1]) - 1
    return 0, 1


def zero(kind):
    """Return the zero of a kind."""
    if is_row(kind):
        return (zero(kind[1]),) * kind[2]
    if kind[0] == "num":
        return fit(kind, 0)
    return 0


def fit(kind, number):
    """Return the value of a num to which the number is fitted."""
    _, low, high, _, how = kind
    if how == "wrap":
        return low + (number - low) % (high - low + 1)
    return min(max(number, low), high)
