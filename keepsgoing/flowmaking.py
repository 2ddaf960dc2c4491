"""The nodes of a flow that is being made, with numbers that are told ahead of the nodes."""

from keepsgoing.errors import TooLarge
from keepsgoing.flows import MOST_NODES
from keepsgoing.kinds import BOOL


class FlowMaking:
    """The nodes made so far, None for those of which only the number is told.

    node_of has the node of each name, once it is told.
    """

    def __init__(self):
        self.nodes = []
        self.node_of = {}
        self.clocks = {(): ()}
        self.beats = {}

    def new(self):
        """Return the number of a node that is made later."""
        if len(self.nodes) == MOST_NODES:
            raise TooLarge("flow")
        self.nodes.append(None)
        return len(self.nodes) - 1

    def add(self, node):
        """Make a node and return its number."""
        number = self.new()
        self.nodes[number] = node
        return number

    def constant(self, kind, clock, value):
        """Make a const and return its number."""
        return self.add(("const", kind, clock, value))

    def beat(self, clock, many, start):
        """Return the number of the beat of a clock."""
        if (clock, many, start) not in self.beats:
            self.beats[(clock, many, start)] = self.add(("beat", BOOL, clock, many, start))
        return self.beats[(clock, many, start)]

    def clock_of(self, told):
        """Return the clock that a clock of a flat program becomes, when all names are told."""
        known = len(told)
        while told[:known] not in self.clocks:
            known -= 1
        for size in range(known + 1, len(told) + 1):
            clock = self.clocks[told[:size - 1]]
            self.clocks[told[:size]] = clock + (self.pair(clock, told[size - 1]),)
        return self.clocks[told]

    def pair(self, clock, layer):
        """Return the pair of a clock that a layer behind this clock becomes."""
        if layer[0] == "every":
            return (self.beat(clock, layer[1], layer[2]), 1)
        return (self.node_of[layer[1]], layer[2][-1])

    def resets_of(self, names):
        """Return the nodes of resets."""
        return tuple(sorted(set([self.node_of[name] for name in names])))
