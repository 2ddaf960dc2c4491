"""Starts: whether what is shown comes from what has been set."""

from keepsgoing.errors import Unset
from keepsgoing.exprparts import layer_names, listed, own_resets

SET = "set"
ANY = "any"


def grades_of(flat):
    """Return the grades of the names of the equations, in order."""
    equations = [(equation[0], listed(equation[4])) for equation in flat[2]]
    grades = {name: SET for name, _ in equations}
    changed = True
    while changed:
        changed = False
        for name, parts in equations:
            grade = _grade_of(parts, grades)
            if grade != grades[name]:
                grades[name] = grade
                changed = True
    return tuple([grades[name] for name, _ in equations])


def _grade_of(parts, grades):
    found = []
    for part, inner in parts:
        found.append(_part_grade(part, [found[place] for place in inner], grades))
    return found[-1]


def _part_grade(part, inner, grades):
    word = part[0]
    if word == "name":
        return grades.get(part[1], SET)
    if word == "last":
        return tuple(sorted(set(own_resets(part)))) if inner[0] == SET else ANY
    if word == "then":
        return inner[0] if _is_within(inner[1], own_resets(part)) else _join(inner)
    if word in ("merge", "weave"):
        return SET if all(grade == SET for grade in inner) else ANY
    if word == "held":
        return inner[0] if inner[1] == SET else ANY
    return _join(inner)


def _is_within(grade, resets):
    if grade == ANY:
        return False
    return grade == SET or all(name in resets for name in grade)


def _join(grades):
    if ANY in grades:
        return ANY
    if all(grade == SET for grade in grades):
        return SET
    names = []
    for grade in grades:
        if grade != SET:
            names.extend(grade)
    return tuple(sorted(set(names)))


def check_starts(flat):
    """Raise Unset for the first name that must be set and may not be."""
    name = _first_unset(flat)
    if name is not None:
        raise Unset(name)


def is_started(flat):
    """Tell whether all names that must be set are."""
    return _first_unset(flat) is None


def _first_unset(flat):
    _, _, equations, outputs, assumes, keeps = flat
    grades = {}
    for equation, grade in zip(equations, grades_of(flat)):
        grades[equation[0]] = grade
    wanted = list(outputs + assumes + keeps)
    for equation in equations:
        wanted.extend(_looked_at(equation[4]))
    for name in wanted:
        if grades.get(name, SET) != SET:
            return name
    return None


def _looked_at(expr):
    """Return the names in resets, layers and before arms, from left to right."""
    found = []
    for part, inner in listed(expr):
        own = []
        for place in inner:
            own.extend(found[place])
        if part[0] == "merge":
            own.insert(0, part[1])
        if part[0] == "when":
            own.extend(layer_names(part[2]))
        if part[0] == "held":
            own.extend(layer_names(part[3]))
        own.extend(own_resets(part))
        found.append(own)
    return found[-1]
