"""Places: what the names of a scope become in a flat program."""

from keepsgoing.items import defined_in
from keepsgoing.meanings import meaning_of


class Place:
    """A scope that is flattened: its prefix, its home, its resets, and what is visible in it.

    The scope of a state has the place around it above, and the layer of the state.
    """

    def __init__(self, prefix, home, resets, meanings):
        self.prefix = prefix
        self.home = home
        self.resets = resets
        self.meanings = meanings
        self.above = None
        self.layer = None
        self.own = {}
        self.told_kinds = {}
        self.tied_names = {}

    def flat_name(self, name):
        """Return the flat name of a name of this scope."""
        return self.prefix + name

    def declare(self, name, kind):
        """Declare a name with a kind of a tree, or None."""
        self.own[name] = True
        self.told_kinds[name] = None if kind is None else meaning_of(kind, self.meanings)

    def declare_items(self, items):
        """Declare what the items of the scope declare directly."""
        for item in items:
            if item[0] == "local":
                self.declare(item[1], item[2])

    def kind_told(self, name):
        """Return the kind that the scope that declares a name tells for it, or None."""
        place = self
        while name not in place.told_kinds:
            place = place.above
        return place.told_kinds[name]

    def tied(self, name):
        """Return 1 for the outs of a unit other than the top, otherwise 0."""
        return 1 if name in self.tied_names else 0

    def seen_as(self, name):
        """Return the flat expr that a visible name becomes."""
        layers = []
        place = self
        while name not in place.own:
            layers.append(place.layer)
            place = place.above
        expr = ("name", place.flat_name(name))
        for layer in reversed(layers):
            expr = ("when", expr, layer)
        return expr


def unit_place(unit, prefix, home, resets, meanings):
    """Return the place of a unit; the top has no home."""
    _, _, ins, outs, items = unit
    place = Place(prefix, home, resets, meanings)
    for name, kind, _ in ins:
        place.declare(name, kind)
    for name, kind in outs:
        place.declare(name, kind)
        if home is not None:
            place.tied_names[name] = True
    place.declare_items(items)
    return place


def state_place(above, state, prefix, layer):
    """Return the place of a state of a machine in the place above."""
    resets = above.resets + (prefix + "@anew",)
    place = Place(prefix + ".", prefix + "@here", resets, above.meanings)
    place.above = above
    place.layer = layer
    for name in defined_in(state[2]):
        place.own[name] = True
    place.declare_items(state[2])
    return place
