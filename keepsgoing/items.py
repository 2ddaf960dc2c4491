"""What the items of a scope declare and define, by their trees."""


def declared_in(items):
    """Return the names that the items declare directly, in order."""
    return [item[1] for item in items if item[0] in ("local", "machine")]


def defined_in(items):
    """Return the names that the items define, in order, as often as they do."""
    found = []
    for item in items:
        found.extend(_defined_by(item))
    return found


def _defined_by(item):
    if item[0] == "set":
        return [item[1]]
    if item[0] == "use":
        return list(item[1])
    if item[0] == "machine":
        return machine_defines(item)
    return []


def machine_defines(machine):
    """Return the names that a machine defines, each once, in order."""
    items = machine[2][0][2]
    own = declared_in(items)
    found = {name: True for name in defined_in(items) if name not in own}
    return list(found)
