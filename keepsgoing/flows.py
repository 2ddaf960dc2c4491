"""Flows: whether they are right, and what hangs on what in them."""

from keepsgoing.graphs import knots_among
from keepsgoing.kinds import BOOL, has, how_many, is_kind
from keepsgoing.ops import COUNTS, result_kind
from keepsgoing.shapes import are_all_tuples, are_different, is_ascending
from keepsgoing.shapes import is_number_of, is_tuple_of, is_within

MOST_NODES = 2000
MOST_INPUTS = 3000
LONGEST_BEAT = 12
EVENT = 1
LOOSE = 2


def is_flow(flow):
    """Tell whether the flow is right; its numbers, words and lengths can be anything."""
    if not is_tuple_of(flow, 6) or flow[0] != "flow":
        return False
    _, inputs, nodes, outputs, assumes, keeps = flow
    if not _are_inputs(inputs) or not _are_nodes(nodes):
        return False
    look = Look(inputs, nodes)
    if not all(look.is_right(node) for node in nodes):
        return False
    return _are_shown(nodes, outputs, assumes, keeps)


def _are_inputs(inputs):
    if not are_all_tuples(inputs, 3) or len(inputs) > MOST_INPUTS:
        return False
    if not are_different([name for name, _, _ in inputs]):
        return False
    return all(is_kind(kind) and is_within(event, 0, 2) for _, kind, event in inputs)


def _are_nodes(nodes):
    if not isinstance(nodes, tuple) or not 1 <= len(nodes) <= MOST_NODES:
        return False
    return all(_is_node(node) for node in nodes)


def _is_node(node):
    if not isinstance(node, tuple) or len(node) < 3 or not isinstance(node[0], str):
        return False
    return is_kind(node[1]) and are_all_tuples(node[2], 2)


def _are_shown(nodes, outputs, assumes, keeps):
    for shown in (outputs, assumes, keeps):
        if not are_all_tuples(shown, 2):
            return False
        if not all(is_number_of(node, len(nodes)) for _, node in shown):
            return False
    if not are_different([name for name, _ in outputs + assumes + keeps]):
        return False
    return all(nodes[node][1] == BOOL for _, node in assumes + keeps)


class Look:
    """A look at nodes one by one, whose words, kinds and clocks have the right form."""

    def __init__(self, inputs, nodes):
        self.inputs = inputs
        self.nodes = nodes

    def is_right(self, node):
        """Tell whether a node is right."""
        if not self._is_clock(node[2]):
            return False
        if node[0] in COUNTS:
            return self._is_operation(node)
        if node[0] not in LOOKS:
            return False
        size, look = LOOKS[node[0]]
        return len(node) == size and look(self, node)

    def _is_clock(self, clock):
        if clock == ():
            return True
        # The pairs ahead are those of the last node, which is looked at, too.
        node, value = clock[-1]
        if not self.is_node(node) or self.clock_of(node) != clock[:-1]:
            return False
        return self.can_part(node) and has(self.kind_of(node), value)

    def _is_operation(self, node):
        operands = node[3:]
        if not all(self.is_node(each) and self.clock_of(each) == node[2] for each in operands):
            return False
        kinds = tuple([self.kind_of(each) for each in operands])
        return result_kind(node[0], kinds, node[1]) == node[1]

    def is_node(self, number):
        """Tell whether this is the number of a node."""
        return is_number_of(number, len(self.nodes))

    def is_input(self, number):
        """Tell whether this is the number of an input."""
        return is_number_of(number, len(self.inputs))

    def kind_of(self, number):
        """Return the kind of a node."""
        return self.nodes[number][1]

    def clock_of(self, number):
        """Return the clock of a node."""
        return self.nodes[number][2]

    def can_part(self, number):
        """Tell whether a node has the kind of those that stand in clocks."""
        return self.kind_of(number)[0] in ("bool", "mode")

    def is_like(self, number, kind, clock):
        """Tell whether this is the number of a node with this kind and clock."""
        return self.is_node(number) and self.kind_of(number) == kind and self.clock_of(number) == clock


def _is_input(look, node):
    _, kind, clock, number = node
    if not look.is_input(number) or look.inputs[number][1] != kind:
        return False
    event = look.inputs[number][2]
    if event == EVENT:
        return len(clock) == 1 and _is_coming(look, clock[0], number)
    return event == LOOSE or clock == ()


def _is_coming(look, pair, number):
    node, value = pair
    return value == 1 and look.nodes[node][0] == "here" and look.nodes[node][3:] == (number,)


def _is_here(look, node):
    _, kind, clock, number = node
    if kind != BOOL or clock != () or not look.is_input(number):
        return False
    return look.inputs[number][2] == EVENT


def _is_const(look, node):
    return has(node[1], node[3])


def _is_when(look, node):
    _, kind, clock, a = node
    return clock != () and look.is_like(a, kind, clock[:-1])


def _is_merge(look, node):
    _, kind, clock, c, arms = node
    if not look.is_node(c) or look.clock_of(c) != clock or not look.can_part(c):
        return False
    if not is_tuple_of(arms, how_many(look.kind_of(c))):
        return False
    return all(look.is_like(arm, kind, clock + ((c, value),)) for value, arm in enumerate(arms))


def _is_delay(look, node):
    _, kind, clock, first, a, resets = node
    if not has(kind, first) or not look.is_like(a, kind, clock):
        return False
    if not isinstance(resets, tuple) or not all(look.is_node(reset) for reset in resets):
        return False
    return is_ascending(resets) and all(_is_reset(look, reset, clock) for reset in resets)


def _is_reset(look, reset, clock):
    own = look.clock_of(reset)
    return look.kind_of(reset) == BOOL and own == clock[:len(own)]


def _is_beat(look, node):
    _, kind, _, n, k = node
    return kind == BOOL and is_within(n, 1, LONGEST_BEAT) and is_within(k, 0, n - 1)


# How many parts a node with this word has, and who looks at it.
LOOKS = {
    "input": (4, _is_input), "here": (4, _is_here), "const": (4, _is_const),
    "when": (4, _is_when), "merge": (5, _is_merge), "delay": (6, _is_delay),
    "beat": (5, _is_beat),
}


def hangs(flow, node):
    """Return the nodes on which a node hangs, ascending."""
    told = flow[2][node]
    found = [each for each, _ in told[2]]
    if told[0] in COUNTS:
        found.extend(told[3:])
    elif told[0] == "when":
        found.append(told[3])
    elif told[0] == "merge":
        found.extend((told[3],) + told[4])
    elif told[0] == "delay":
        found.extend(told[5])
    return tuple(sorted(set(found)))


def all_hangs(flow):
    """Return for each node the nodes on which it hangs, in a list."""
    return [hangs(flow, node) for node in range(len(flow[2]))]


def knots_of(flow):
    """Return the knots of a flow, in the order of their first nodes."""
    return knots_among(all_hangs(flow))


def is_straight(flow):
    """Tell whether a flow has no knots."""
    return not knots_of(flow)


def memory_of(flow):
    """Return the nodes whose contents are the cells of memory, in order."""
    return tuple([at for at, node in enumerate(flow[2]) if node[0] in ("delay", "beat")])
