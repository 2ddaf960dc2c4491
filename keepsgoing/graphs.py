"""Things that hang on things: knots, and orders in which nothing comes too early."""


def knots_among(hanging):
    """Return the knots of things numbered from 0, where each has a list of those it hangs on.

    A knot is a tuple of numbers, ascending; they are in the order of their first ones.
    """
    knots = []
    for group in _groups(hanging):
        if len(group) > 1 or group[0] in hanging[group[0]]:
            knots.append(tuple(sorted(group)))
    return tuple(sorted(knots))


def order_among(hanging):
    """Return all numbers, each one behind those on which it hangs, where there is no knot."""
    return [group[0] for group in _groups(hanging)]


def groups_among(hanging):
    """Return all numbers in groups that hang on each other, behind those on which they hang."""
    return [tuple(sorted(group)) for group in _groups(hanging)]


def _groups(hanging):
    walk = Walk(hanging)
    for start in range(len(hanging)):
        if walk.found[start] is None:
            walk.go_from(start)
    return walk.groups


class Walk:
    """Tarjan's walk, with a list in place of nested calls."""

    def __init__(self, hanging):
        self.hanging = hanging
        self.found = [None] * len(hanging)
        self.lowest = [0] * len(hanging)
        self.open_ones = []
        self.is_held = [False] * len(hanging)
        self.many = 0
        self.groups = []

    def go_from(self, start):
        """Find the groups of all that is reached from a number that is not found yet."""
        self._enter(start)
        path = [(start, 0)]
        while path:
            number, step = path.pop()
            if step < len(self.hanging[number]):
                path.append((number, step + 1))
                other = self.hanging[number][step]
                if self.found[other] is None:
                    self._enter(other)
                    path.append((other, 0))
                elif self.is_held[other]:
                    self.lowest[number] = min(self.lowest[number], self.found[other])
            else:
                self._leave(number)
                if path:
                    above = path[-1][0]
                    self.lowest[above] = min(self.lowest[above], self.lowest[number])

    def _enter(self, number):
        self.found[number] = self.many
        self.lowest[number] = self.many
        self.many += 1
        self.open_ones.append(number)
        self.is_held[number] = True

    def _leave(self, number):
        if self.lowest[number] < self.found[number]:
            return
        group = []
        while self.is_held[number]:
            other = self.open_ones.pop()
            self.is_held[other] = False
            group.append(other)
        self.groups.append(group)
