"""What a part of a flat expr does in a tick at which its clock is there."""

from keepsgoing.exprparts import is_operation
from keepsgoing.ops import VALUE_RULES


class Desk:
    """The values of a tick: of the names and of the parts; and what is kept between ticks."""

    def __init__(self, names, parts):
        self.named = [None] * names
        self.parted = [None] * parts
        self.kept = []

    def new_cell(self):
        """Return the number of a new cell for what a part keeps; None is its beginning."""
        self.kept.append(None)
        return len(self.kept) - 1


def part_worker(desk, part, inner, place, facts):
    """Return a function that tells the value of a part.

    inner are the places of the parts in it, place is that of the name that it looks at, and facts
    are what else it needs: its kind, the kinds of the parts in it, its cell and its filling.
    """
    if is_operation(part):
        return _operation(desk, part, inner, facts)
    if part[0] in ("int", "truth", "mode"):
        return _constant(part[-1])
    make = MAKERS[part[0]]
    return make(desk, part, inner, place, facts)


def _operation(desk, part, inner, facts):
    rule = VALUE_RULES[part[0]]
    told, kinds, _, _ = facts
    return lambda: rule(kinds, [desk.parted[at] for at in inner], told)


def _constant(value):
    return lambda: value


def _name(desk, part, inner, place, facts):
    return lambda: desk.named[place]


def _same(desk, part, inner, place, facts):
    return lambda: desk.parted[inner[0]]


def _last(desk, part, inner, place, facts):
    _, _, cell, filling = facts

    def last_value():
        return filling if desk.kept[cell] is None else desk.kept[cell]
    return last_value


def _then(desk, part, inner, place, facts):
    cell = facts[2]
    first, second = inner

    def then_value():
        if desk.kept[cell] is None:
            desk.kept[cell] = 1
            return desk.parted[first]
        return desk.parted[second]
    return then_value


def _held(desk, part, inner, place, facts):
    cell = facts[2]
    first, second = inner

    def held_value():
        if desk.parted[second] is not None:
            desk.kept[cell] = desk.parted[second]
        return desk.parted[first] if desk.kept[cell] is None else desk.kept[cell]
    return held_value


def _merge(desk, part, inner, place, facts):
    return lambda: desk.parted[inner[desk.named[place]]]


def _weave(desk, part, inner, place, facts):
    def woven_value():
        for at in inner:
            if desk.parted[at] is not None:
                return desk.parted[at]
        return None
    return woven_value


def _fresh(desk, part, inner, place, facts):
    cell = facts[2]
    many = part[2]

    def fresh_value():
        # What is kept is how long the last value stays fresh, and this value.
        if desk.named[place] is not None:
            desk.kept[cell] = (many, desk.named[place])
        elif desk.kept[cell] is not None:
            left, value = desk.kept[cell]
            desk.kept[cell] = (left - 1, value) if left > 0 else None
        return desk.parted[inner[0]] if desk.kept[cell] is None else desk.kept[cell][1]
    return fresh_value


MAKERS = {
    "name": _name, "when": _same, "last": _last, "then": _then, "held": _held,
    "merge": _merge, "weave": _weave, "fresh": _fresh,
}
