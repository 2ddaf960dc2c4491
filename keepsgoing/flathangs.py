"""What the names of a flat program hang on."""

from keepsgoing.exprparts import expr_hangs, layer_names
from keepsgoing.graphs import groups_among, knots_among


class Hanging:
    """The equations of a flat program, behind them its loose inputs, and what they hang on."""

    def __init__(self, flat, clocks):
        self.names = [equation[0] for equation in flat[2]]
        loose = loose_inputs(flat)
        self.names.extend(loose)
        self.places = {name: place for place, name in enumerate(self.names)}
        self.on = []
        for equation, clock in zip(flat[2], clocks):
            self.on.append(self._among(_clock_names(clock) + expr_hangs(equation[4])))
        told = input_clocks(flat, clocks)
        for name in loose:
            self.on.append(self._among(_clock_names(told[name])))

    def _among(self, names):
        return sorted(set([self.places[name] for name in names if name in self.places]))

    def knots(self):
        """Return the knots, in the order of their first equations."""
        return knots_among(self.on)

    def in_groups(self):
        """Return all numbers in groups that hang on each other, each behind what it hangs on."""
        return groups_among(self.on)


def _clock_names(clock):
    found = []
    for layer in clock:
        found.extend(layer_names(layer))
    return found


def loose_inputs(flat):
    """Return the names of the loose inputs of a flat program, in order."""
    return [name for name, _, event in flat[1] if event not in (0, 1)]


def input_clocks(flat, clocks):
    """Return a dict with the clock of each input, by the clocks of the equations."""
    told = {equation[0]: clock for equation, clock in zip(flat[2], clocks)}
    homes = {}
    for name, _, event in flat[1]:
        if event == 0:
            told[name] = ()
        elif event == 1:
            told[name] = (("is", name + "@here", ("truth", 1)),)
        else:
            homes[name] = event
    for name in homes:
        # The home of a loose input can be a loose one, too.
        home = homes[name]
        while home in homes:
            home = homes[home]
        told[name] = told[home]
    return {name: told[name] for name, _, _ in flat[1]}
