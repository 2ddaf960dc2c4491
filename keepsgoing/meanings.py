"""What the kinds in a tree mean, for trees without faults in their names."""


def kind_names(program):
    """Return a dict with the meaning of each kind name of a program."""
    meanings = {}
    for name, kind in program[1]:
        meanings[name] = meaning_of(kind, meanings)
    return meanings


def meaning_of(kind, meanings):
    """Return the kind that a kind of a tree means."""
    if kind[0] == "named":
        return meanings[kind[1]]
    if kind[0] == "row":
        return ("row", meaning_of(kind[1], meanings), kind[2])
    return kind
