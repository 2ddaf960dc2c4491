"""Uses of units: what stands around a unit in a flat program, and boxes in the place of what is in it."""

from keepsgoing.flatexprs import YES, flat_expr
from keepsgoing.flatmachines import defining
from keepsgoing.kinds import BOOL
from keepsgoing.meanings import meaning_of
from keepsgoing.places import unit_place

# What must not stand in the claims of a unit in a box.
BARRED = ("last", "then", "held", "fresh", "else", "here", "merge", "weave", "when")


def add_ins(work, place, item):
    """Make the equations of the ins of a used unit; return the prefix of what is in it."""
    _, names, unit_name, args, _ = item
    prefix = place.flat_name(names[0]) + "."
    for at, (name, kind, _) in enumerate(work.units[unit_name][2]):
        told = meaning_of(kind, work.meanings)
        arg = flat_expr(args[at], place)
        work.add_equation((prefix + name, told, place.home, 2 if at > 0 else 0, arg))
    return prefix


def out_equations(work, place, item, prefix):
    """Return the equations of the names that a use defines."""
    outs = work.units[item[2]][3]
    return [defining(place, name, ("name", prefix + out)) for name, (out, _) in zip(item[1], outs)]


def is_box(item, units):
    """Tell whether an item of the top is a box."""
    if item[0] != "use" or item[4] is not None:
        return False
    _, _, ins, outs, items = units[item[2]]
    names = [each[0] for each in ins + outs]
    claims = [each for each in items if each[0] in ("assume", "keep")]
    if not any(word == "keep" for word, _ in claims):
        return False
    return all(_is_plain(expr, names) for _, expr in claims)


def _is_plain(expr, names):
    """Tell whether an expr is made of operations on these names and constants alone."""
    word = expr[0]
    if word in BARRED:
        return False
    if word == "name":
        return expr[1] in names
    if word in ("int", "truth", "value"):
        return True
    parts = expr[1:2] if word == "as" else expr[1:]
    return all(_is_plain(part, names) for part in parts)


def add_box(work, place, item):
    """Make what stands in the place of a unit in a box: what it is promised, and what it promises."""
    unit = work.units[item[2]]
    prefix = add_ins(work, place, item)
    home = prefix + unit[2][0][0]
    inner = unit_place(unit, prefix, home, place.resets, work.meanings)
    claims = {"assume": [], "keep": []}
    for word, expr in [each for each in unit[4] if each[0] in claims]:
        name = f"{prefix}{word}@{len(claims[word])}"
        claims[word].append(("name", name))
        work.add_equation((name, BOOL, home, 1, flat_expr(expr, inner)))
    fine, due = prefix + "@fine", prefix + "@due"
    so_far = ("name", prefix + "@long")
    before = ("then", YES, ("last", so_far, ()), ())
    work.add_equation((fine, BOOL, home, 1, _all_of(claims["assume"])))
    work.add_equation((so_far[1], BOOL, home, 1, ("and", ("name", fine), before)))
    work.add_equation((due, BOOL, home, 1, ("or", ("not", so_far), _all_of(claims["keep"]))))
    work.keeps.append(fine)
    work.dues.append(due)
    for name, kind in unit[3]:
        work.loose.append((prefix + name, meaning_of(kind, work.meanings), home))
    work.add_equations(out_equations(work, place, item, prefix))


def _all_of(exprs):
    """Return the and of some exprs."""
    if not exprs:
        return YES
    whole = exprs[0]
    for expr in exprs[1:]:
        whole = ("and", whole, expr)
    return whole
