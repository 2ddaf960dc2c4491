"""What the names of a flat program hang on."""

from keepsgoing.exprparts import expr_hangs, layer_names
from keepsgoing.graphs import groups_among, knots_among


class Hanging:
    """The equations of a flat program, behind them its loose inputs, and what they hang on."""

    def __init__(self, flat, clocks):
        self.names = [equation[0] for equation in flat[2]]
        told = {equation[0]: clock for equation, clock in zip(flat[2], clocks)}
        loose = [(name, home) for name, _, home in flat[1] if home not in (0, 1)]
        self.names.extend([name for name, _ in loose])
        self.places = {name: place for place, name in enumerate(self.names)}
        homes = {name: home for name, home in loose}
        self.on = []
        for equation, clock in zip(flat[2], clocks):
            self.on.append(self._among(_clock_names(clock) + expr_hangs(equation[4])))
        for name, _ in loose:
            self.on.append(self._among(_clock_names(_loose_clock(name, homes, told))))

    def _among(self, names):
        return sorted(set([self.places[name] for name in names if name in self.places]))

    def knots(self):
        """Return the knots, in the order of their first equations."""
        return knots_among(self.on)

    def in_groups(self):
        """Return all numbers in groups that hang on each other, each behind what it hangs on."""
        return groups_among(self.on)


def _clock_names(clock):
    found = []
    for layer in clock:
        found.extend(layer_names(layer))
    return found


def _loose_clock(name, homes, told):
    """Return the clock of a loose input: that of its home, which can be a loose one, too."""
    home = name
    while home in homes:
        home = homes[home]
    return told[home] if home in told else ()
