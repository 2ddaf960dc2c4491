"""Bills: how many steps a way through a code has at most."""


def bill(code):
    """Return the greatest number of steps of a way through a code."""
    return most_steps(code, 0, len(code), {})


def dear_way(code):
    """Return the greatest of the ways that have as many steps as the bill tells."""
    counts = _counts(code, 0, len(code), {})
    way = []
    at = 0
    while at < len(code):
        way.append(at)
        near = at + 1
        far = near + passed_by(code[at])
        goes_far = code[at][0] == "skip" or counts[far] >= counts[near]
        at = far if goes_far else near
    return tuple(way)


def passed_by(step):
    """Return how many of the next steps a step can pass over."""
    if step[0] == "unless":
        return step[3]
    return step[1] if step[0] == "skip" else 0


def most_steps(code, first, end, told):
    """Return the most steps of a way through a piece of a code, which no way leaves ahead of its end.

    told has for some places of an `unless` whether it goes on with the next step.
    """
    return _counts(code, first, end, told)[0]


def _counts(code, first, end, told):
    """Return for each place of a piece the most steps of a way from there to its end."""
    counts = [0] * (end - first + 1)
    for at in reversed(range(first, end)):
        step = code[at]
        near = counts[at - first + 1]
        far = counts[at - first + 1 + passed_by(step)]
        if step[0] == "skip":
            near = far
        elif at not in told:
            near = max(near, far)
        elif not told[at]:
            near = far
        counts[at - first] = 1 + near
    return counts
