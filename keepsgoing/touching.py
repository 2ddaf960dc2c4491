"""What a fault in a straight flow can reach, tick by tick."""

from keepsgoing.flows import all_hangs, memory_of
from keepsgoing.graphs import order_among
from keepsgoing.nodework import cells_of


def touched(flow, seeds, cells, many, *, lasts=False):
    """Return the touched nodes for each of so many ticks from the beginning of a fault on."""
    spread = Spread(flow)
    wrong = {cell: True for cell in cells}
    begun = {node: True for node in seeds}
    found = []
    for _ in range(many):
        nodes = spread.nodes_at(begun, wrong)
        found.append(tuple(sorted(nodes)))
        wrong = spread.cells_behind(nodes, wrong)
        if not lasts:
            begun = {}
    return tuple(found)


def gone(flow, cells):
    """Return behind how many ticks wrong contents of these cells are gone; None if they never are.

    A wrong content that is there behind more ticks than there are cells has come to some cell a
    second time, and will come to it again.
    """
    looks = Spread(flow).cells_before()
    wrong = 0
    for cell in cells:
        wrong = wrong | 1 << cell
    for ticks in range(len(looks) + 1):
        if wrong == 0:
            return ticks
        left = 0
        for cell, look in enumerate(looks):
            if look & wrong:
                left = left | 1 << cell
        wrong = left
    return None


class Spread:
    """How wrong values go from node to node within a tick, and to the memory behind it.

    stays has for each cell whether a wrong content can stay in it, looks the nodes at which it
    looks at the end of a tick.
    """

    def __init__(self, flow):
        self.hanging = all_hangs(flow)
        self.order = order_among(self.hanging)
        self.cell_of = cells_of(flow)
        self.stays = []
        self.looks = []
        for number in memory_of(flow):
            node = flow[2][number]
            self.stays.append(node[0] == "beat" or node[2] != ())
            self.looks.append(_looks_of(node))

    def nodes_at(self, begun, wrong):
        """Return the nodes that are touched at a tick, as a dict, by seeds and cells that are."""
        found = {}
        for node in self.order:
            own = node in begun or node in self.cell_of and self.cell_of[node] in wrong
            if own or any(each in found for each in self.hanging[node]):
                found[node] = True
        return found

    def cells_behind(self, nodes, wrong):
        """Return the cells that are touched behind a tick, as a dict."""
        found = {}
        for cell, looks in enumerate(self.looks):
            if self.stays[cell] and cell in wrong or any(node in nodes for node in looks):
                found[cell] = True
        return found

    def cells_before(self):
        """Return for each cell those that touch it behind one tick, as the bits of a number."""
        reach = [0] * len(self.order)
        for node in self.order:
            bits = 1 << self.cell_of[node] if node in self.cell_of else 0
            for each in self.hanging[node]:
                bits = bits | reach[each]
            reach[node] = bits
        found = []
        for cell, looks in enumerate(self.looks):
            bits = 1 << cell if self.stays[cell] else 0
            for node in looks:
                bits = bits | reach[node]
            found.append(bits)
        return found


def _looks_of(node):
    """Return the nodes by which the content of a delay or a beat can get wrong in a tick."""
    if node[2] == ():
        # It takes its a at every tick, so what its resets do does not stay.
        return (node[4],) if node[0] == "delay" else ()
    clock = tuple([each for each, _ in node[2]])
    return clock + (node[4],) + node[5] if node[0] == "delay" else clock
