"""Scopes: which names are visible at a place of a unit, and what they are."""

IN = "in"
EVENT = "event"
OUT = "out"
LOCAL = "local"
MACHINE = "machine"


class Scope:
    """The items of a unit or of a state; above is the scope around, None for a unit."""

    def __init__(self, above, items):
        self.above = above
        self.items_here = items
        self.declared = {}
        self.defined = {}

    def is_state(self):
        """Tell whether this is the scope of a state."""
        return self.above is not None

    def declare(self, name, what):
        """Declare a name as an in, an event, an out, a local or a machine."""
        self.declared[name] = what

    def define(self, name):
        """Define a name."""
        self.defined[name] = True

    def has_own(self, name):
        """Tell whether this scope declares or defines the name."""
        return name in self.declared or name in self.defined

    def what(self, name):
        """Return what a visible name is; None if it is not visible."""
        scope = self
        while scope is not None:
            if name in scope.declared:
                return scope.declared[name]
            scope = scope.above
        return None
