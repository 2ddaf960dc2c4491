"""Orders of the nodes of a straight flow."""

from heapq import heappop, heappush

from keepsgoing.flows import all_hangs
from keepsgoing.shapes import is_number_of


def judge_order(flow, order):
    """Tell whether each node stands in the order once, behind all nodes on which it hangs."""
    many = len(flow[2])
    if len(order) != many or not all(is_number_of(node, many) for node in order):
        return False
    places = {node: place for place, node in enumerate(order)}
    if len(places) != many:
        return False
    for node, hanging in enumerate(all_hangs(flow)):
        if any(places[each] >= places[node] for each in hanging):
            return False
    return True


def order_of(flow):
    """Return the plain order."""
    queues = Queues(flow)
    order = []
    while len(order) < len(flow[2]):
        order.append(queues.take())
    return tuple(order)


class Queues:
    """The nodes that could come next: all of them, and those of each clock."""

    def __init__(self, flow):
        hanging = all_hangs(flow)
        numbers = {}
        self.clocks = [numbers.setdefault(node[2], len(numbers)) for node in flow[2]]
        self.everything = []
        self.by_clock = [[] for _ in numbers]
        self.taken = [False] * len(hanging)
        self.left = [len(each) for each in hanging]
        self.users = [[] for _ in hanging]
        self.clock = None
        for node, each in enumerate(hanging):
            for other in each:
                self.users[other].append(node)
        for node, many in enumerate(self.left):
            if many == 0:
                self._put(node)

    def _put(self, node):
        heappush(self.everything, node)
        heappush(self.by_clock[self.clocks[node]], node)

    def take(self):
        """Return the next node: of the clock of the last one if there is one."""
        queue = self.everything if self.clock is None else self.by_clock[self.clock]
        self._drop_taken(queue)
        if not queue:
            queue = self.everything
            self._drop_taken(queue)
        node = heappop(queue)
        self.taken[node] = True
        self.clock = self.clocks[node]
        for user in self.users[node]:
            self.left[user] -= 1
            if self.left[user] == 0:
                self._put(user)
        return node

    def _drop_taken(self, queue):
        while queue and self.taken[queue[0]]:
            heappop(queue)
