import itertools
import random
import unittest

from keepsgoing.flows import is_flow, is_straight
from keepsgoing.orders import order_of
from keepsgoing.seats import judge_seats, lives, seats_of
from tests.knotflows import hangs_on
from tests.randomflows import random_flow
from tests.test_orders import some_order

BOOL = ("bool",)
NUM = ("num", 0, 5, 1, "wrap")
ROW = ("row", NUM, 2)
X = (("x", BOOL, 0), ("n", NUM, 0))


def size(node):
    return node[1][2] if node[1][0] == "row" else 1


def slow_lives(flow, order):
    _, _, nodes, outputs, assumes, keeps = flow
    behind = set()
    for _, node in outputs + assumes + keeps:
        behind |= {node} | {each for each, _ in nodes[node][2]}
    for node in nodes:
        if node[0] in ("delay", "beat"):
            behind |= {each for each, _ in node[2]}
        if node[0] == "delay":
            behind.add(node[4])
    told = []
    for node in range(len(nodes)):
        first = order.index(node)
        uses = [order.index(at) for at, other in enumerate(nodes) if node in hangs_on(other)]
        uses += [len(nodes)] if node in behind else []
        told.append((first, max(uses + [first])))
    return tuple(told)


def slow_judge(flow, order, seating):
    nodes = flow[2]
    if len(seating) != len(nodes) or set(seating) != set(range(len(set(seating)))):
        return False
    told = slow_lives(flow, order)
    for one, two in itertools.combinations(range(len(nodes)), 2):
        if seating[one] == seating[two]:
            if size(nodes[one]) != size(nodes[two]):
                return False
            if told[one][0] <= told[two][1] and told[two][0] <= told[one][1]:
                return False
    return True


def flow(*nodes, shown=(), assumes=(), keeps=()):
    made = ("flow", X, nodes, tuple((f"o{at}", at) for at in shown), tuple((f"p{at}", at) for at in assumes),
            tuple((f"q{at}", at) for at in keeps))
    assert is_flow(made) and is_straight(made)
    return made


class Lives(unittest.TestCase):
    def lives(self, made, wanted, order=None):
        order = tuple(range(len(made[2]))) if order is None else order
        self.assertEqual(lives(made, order), wanted)
        self.assertEqual(slow_lives(made, order), wanted)

    def test_without_uses(self):
        self.lives(flow(("const", BOOL, (), 0), ("const", BOOL, (), 0)), ((0, 0), (1, 1)))
        self.lives(flow(("const", BOOL, (), 0), ("const", BOOL, (), 0)), ((1, 1), (0, 0)), (1, 0))

    def test_operands_and_whens(self):
        on = ((0, 1),)
        self.lives(flow(("input", BOOL, (), 0), ("not", BOOL, (), 0), ("and", BOOL, (), 0, 1), ("not", BOOL, (), 1)),
                   ((0, 2), (1, 3), (2, 2), (3, 3)))
        # Node 0 is in the clock of node 3, node 1 is its operand, node 2 the a of a when.
        self.lives(flow(("input", BOOL, (), 0), ("const", BOOL, on, 0), ("input", BOOL, (), 0),
                        ("not", BOOL, on, 1), ("when", BOOL, ((2, 0),), 2)),
                   ((0, 3), (1, 3), (2, 4), (3, 3), (4, 4)))

    def test_merges(self):
        made = flow(("input", BOOL, (), 0), ("const", NUM, ((0, 0),), 1), ("const", NUM, ((0, 1),), 2),
                    ("const", NUM, (), 0), ("merge", NUM, (), 0, (1, 2)), ("const", NUM, (), 0))
        self.lives(made, ((0, 4), (1, 4), (2, 4), (3, 3), (4, 4), (5, 5)))

    def test_delays_and_resets(self):
        made = flow(("input", BOOL, (), 0), ("input", NUM, (), 1), ("delay", NUM, (), 0, 1, (0,)),
                    ("const", NUM, (), 0))
        self.lives(made, ((0, 2), (1, 4), (2, 2), (3, 3)))
        # The a of a delay can stand behind it.
        self.lives(made, ((0, 1), (3, 4), (1, 1), (2, 2)), (0, 2, 3, 1))

    def test_clocks_of_delays_and_beats(self):
        on = ((0, 1),)
        self.lives(flow(("input", BOOL, (), 0), ("beat", BOOL, on, 2, 0), ("const", NUM, (), 0)),
                   ((0, 3), (1, 1), (2, 2)))
        self.lives(flow(("input", BOOL, (), 0), ("delay", BOOL, on, 0, 1, ()), ("const", NUM, (), 0)),
                   ((0, 3), (1, 3), (2, 2)))
        deep = flow(("input", BOOL, (), 0), ("const", BOOL, on, 1), ("beat", BOOL, on + ((1, 1),), 2, 0),
                    ("const", NUM, (), 0))
        self.lives(deep, ((0, 4), (1, 4), (2, 2), (3, 3)))

    def test_what_is_shown(self):
        on = ((0, 1),)
        nodes = (("input", BOOL, (), 0), ("const", BOOL, on, 1), ("const", NUM, (), 0))
        self.lives(flow(*nodes, shown=(1,)), ((0, 3), (1, 3), (2, 2)))
        self.lives(flow(*nodes, assumes=(1,)), ((0, 3), (1, 3), (2, 2)))
        self.lives(flow(*nodes, keeps=(1,)), ((0, 3), (1, 3), (2, 2)))
        self.lives(flow(*nodes, shown=(2,)), ((0, 1), (1, 1), (2, 3)))
        self.lives(flow(*nodes), ((0, 1), (1, 1), (2, 2)))

    def test_random_flows(self):
        rng = random.Random(1)
        for seed in range(40):
            made = random_flow(seed, 12 + seed)
            made = made[:3] + (made[3][::5],) + made[4:]
            for order in (order_of(made), some_order(rng, made)):
                self.assertEqual(lives(made, order), slow_lives(made, order))


class Judge(unittest.TestCase):
    MADE = flow(("input", BOOL, (), 0), ("not", BOOL, (), 0), ("input", NUM, (), 1), ("row", ROW, (), 2, 2),
                ("const", ROW, (), (0, 0)), ("not", BOOL, (), 1))
    ORDER = (0, 1, 2, 3, 4, 5)

    def judge(self, seating, wanted):
        self.assertIs(judge_seats(self.MADE, self.ORDER, seating), wanted, seating)

    def test_taken(self):
        self.assertEqual(lives(self.MADE, self.ORDER), ((0, 1), (1, 5), (2, 3), (3, 3), (4, 4), (5, 5)))
        for good in ((0, 1, 2, 3, 4, 5), (0, 1, 0, 2, 2, 0), (2, 1, 2, 0, 0, 3), (5, 4, 3, 2, 1, 0)):
            self.judge(good, True)

    def test_not_taken(self):
        # Together at one place; two sizes; a seat that is nobody's; other numbers and lengths.
        for bad in ((0, 0, 1, 2, 3, 4), (0, 1, 1, 2, 2, 0), (0, 1, 0, 2, 2, 1), (0, 1, 2, 0, 3, 4),
                    (0, 1, 2, 3, 1, 4), (0, 1, 2, 4, 5, 6), (1, 2, 3, 4, 5, 6), (0, 1, 0, 3, 3, 0),
                    (-1, 1, -1, 2, 2, -1), (), (0, 1, 2, 3, 4), (0, 1, 2, 3, 4, 5, 6), (-1, 0, 1, 2, 3, 4), (0, 1, 2, 3, 4, 1000000)):
            self.judge(bad, False)

    def test_by_the_order(self):
        on = ((0, 1),)
        made = flow(("input", BOOL, (), 0), ("const", NUM, on, 1), ("const", NUM, on, 1), ("neg", NUM, on, 1))
        self.assertIs(judge_seats(made, (0, 1, 3, 2), (0, 1, 1, 2)), True)
        self.assertIs(judge_seats(made, (0, 1, 2, 3), (0, 1, 1, 2)), False)

    def test_random_seatings(self):
        rng = random.Random(2)
        taken = 0
        for seed in range(40):
            made = random_flow(seed, 16)
            made = made[:3] + (made[3][::6],) + made[4:]
            order = order_of(made)
            seating = seats_of(made, order)
            for _ in range(12):
                other = list(seating)
                for _ in range(rng.choice([1, 1, 2])):
                    other[rng.randrange(16)] = rng.randrange(max(seating) + 2)
                wanted = slow_judge(made, order, tuple(other))
                self.assertIs(judge_seats(made, order, tuple(other)), wanted)
                taken += wanted
        self.assertGreater(taken, 40)


class Seats(unittest.TestCase):
    def test_as_few_as_there_must_be(self):
        rng = random.Random(3)
        for seed in range(60):
            made = random_flow(seed, 12 + seed)
            made = made[:3] + (made[3][::1 + seed % 9],) + made[4:]
            for order in (order_of(made), some_order(rng, made)):
                seating = seats_of(made, order)
                self.assertIs(judge_seats(made, order, seating), True)
                self.assertIs(slow_judge(made, order, seating), True)
                told = slow_lives(made, order)
                for many in (1, 2):
                    own = [at for at, node in enumerate(made[2]) if size(node) == many]
                    most = max([sum(told[at][0] <= place <= told[at][1] for at in own)
                                for place in range(len(order) + 1)])
                    self.assertEqual(len({seating[at] for at in own}), most)

    def test_large_flows(self):
        nodes = [("input", BOOL, (), 0)] + [("not", BOOL, (), at) for at in range(1999)]
        made = flow(*nodes, shown=(1999,))
        seating = seats_of(made, tuple(range(2000)))
        self.assertEqual(max(seating), 1)
        self.assertIs(judge_seats(made, tuple(range(2000)), seating), True)


if __name__ == "__main__":
    unittest.main()
