import random
import unittest

from keepsgoing.flowruns import FlowRun
from keepsgoing.flows import is_flow
from keepsgoing.orderruns import OrderRun
from keepsgoing.orders import judge_order, order_of
from tests.knotflows import hangs_on
from tests.randomflows import FlowOracle, random_flow, random_rows
from tests.runchecks import check_state, check_ticks

BOOL = ("bool",)
NUM = ("num", 0, 5, 1, "wrap")


def slow_judge(flow, order):
    nodes = flow[2]
    if sorted(order) != list(range(len(nodes))):
        return False
    return all(order.index(other) < order.index(node)
               for node in range(len(nodes)) for other in hangs_on(nodes[node]))


def slow_plain(flow):
    nodes = flow[2]
    order = []
    while len(order) < len(nodes):
        ready = [at for at in range(len(nodes)) if at not in order
                 and all(each in order for each in hangs_on(nodes[at]))]
        like = [at for at in ready if order and nodes[at][2] == nodes[order[-1]][2]]
        order.append(min(like or ready))
    return tuple(order)


def some_order(rng, flow):
    """Any order that is taken."""
    nodes = flow[2]
    order = []
    while len(order) < len(nodes):
        order.append(rng.choice([at for at in range(len(nodes)) if at not in order
                                 and all(each in order for each in hangs_on(nodes[at]))]))
    return tuple(order)


# Nodes of two clocks: 0, 3, 4 and 6 are always there.
TWO = ("flow", (("x", BOOL, 0),), (
    ("input", BOOL, (), 0), ("when", BOOL, ((0, 1),), 0), ("not", BOOL, ((0, 1),), 1),
    ("not", BOOL, (), 0), ("delay", BOOL, (), 0, 6, (3,)), ("delay", BOOL, ((0, 1),), 0, 2, (4,)),
    ("and", BOOL, (), 3, 4)), (("o", 5),), (), ())


class Orders(unittest.TestCase):
    def test_plain_order(self):
        self.assertTrue(is_flow(TWO))
        self.assertEqual(order_of(TWO), (0, 3, 4, 6, 1, 2, 5))
        consts = ("flow", (), tuple(("const", NUM, (), at % 5) for at in range(7)), (), (), ())
        self.assertEqual(order_of(consts), tuple(range(7)))

    def test_least_of_all_comes_when_no_node_has_the_clock(self):
        made = ("flow", (("x", BOOL, 0), ("y", BOOL, 0)), (
            ("when", BOOL, ((6, 1),), 6), ("when", BOOL, ((5, 1),), 5), ("not", BOOL, ((5, 1),), 1),
            ("not", BOOL, ((6, 1),), 0), ("when", BOOL, ((5, 0),), 5), ("input", BOOL, (), 0),
            ("input", BOOL, (), 1)), (), (), ())
        self.assertTrue(is_flow(made))
        self.assertEqual(order_of(made), (5, 6, 0, 3, 1, 2, 4))

    def test_judge(self):
        good = (0, 3, 4, 6, 1, 2, 5)
        self.assertIs(judge_order(TWO, good), True)
        self.assertIs(judge_order(TWO, (0, 1, 2, 3, 4, 5, 6)), True)
        wrong = [(), (0,), good[:-1], good + (5,), good + (7,), good[:-1] + (7,), (-1,) + good[1:],
                 good[:-1] + (0,), (3, 0) + good[2:], (0, 3, 6, 4, 1, 2, 5), (1, 0) + good[1:4] + good[5:],
                 (0, 3, 4, 6, 2, 1, 5), (0, 3, 1, 2, 5, 4, 6), good[:-1] + (-2,), good[:-1] + (1000000,)]
        for order in wrong:
            self.assertIs(judge_order(TWO, order), False, order)
        # A delay stands ahead of what it takes, here of node 6.
        self.assertLess(good.index(4), good.index(6))
        consts = ("flow", (), tuple(("const", NUM, (), at) for at in range(3)), (), (), ())
        for order in ((0, 0, 1), (0, 1, 1), (2, 1, 2), (0, 1, 3), (0, 1, -1), (0, 1, None), (0, 1, ""), (0, 1)):
            self.assertIs(judge_order(consts, order), False)
        self.assertIs(judge_order(consts, (2, 0, 1)), True)

    def test_each_condition_alone(self):
        """Each node on which another one hangs must stand ahead of it, for all words."""
        for seed in range(15):
            made = random_flow(seed, 22)
            order = order_of(made)
            for node in range(22):
                for other in hangs_on(made[2][node]):
                    moved = [each for each in order if each != other]
                    moved.insert(moved.index(node) + 1, other)
                    self.assertIs(judge_order(made, tuple(moved)), False)

    def test_random_orders(self):
        rng = random.Random(3)
        for seed in range(30):
            made = random_flow(seed, 18)
            self.assertIs(judge_order(made, some_order(rng, made)), True)
            for _ in range(15):
                order = list(order_of(made))
                one, two = rng.randrange(18), rng.randrange(18)
                order[one], order[two] = order[two], order[one]
                self.assertEqual(judge_order(made, tuple(order)), slow_judge(made, order))

    def test_plain_orders_of_random_flows(self):
        for seed in range(60):
            made = random_flow(seed, 12 + seed)
            self.assertEqual(order_of(made), slow_plain(made), seed)
            self.assertIs(judge_order(made, order_of(made)), True)

    def test_large_flows(self):
        many = 2000
        nodes = [("not", BOOL, (), at + 1) for at in range(many - 1)] + [("input", BOOL, (), 0)]
        made = ("flow", (("x", BOOL, 0),), tuple(nodes), (), (), ())
        self.assertEqual(order_of(made), tuple(reversed(range(many))))
        self.assertIs(judge_order(made, order_of(made)), True)
        deep = [("input", BOOL, (), 0)]
        for at in range(700):
            deep.append(("when", BOOL, deep[-1][2] + ((at, 1),), at))
        made = ("flow", (("x", BOOL, 0),), tuple(deep), (), (), ())
        self.assertEqual(order_of(made), tuple(range(701)))


class Runs(unittest.TestCase):
    def test_all_orders_show_the_same(self):
        rng = random.Random(5)
        for seed in range(40):
            made = random_flow(seed, 14 + seed)
            rows = random_rows(seed, 10)
            wanted = list(FlowRun(made).ticks(rows))
            oracle = FlowOracle(made, rows)
            for order in (order_of(made), some_order(rng, made), some_order(rng, made)):
                run = OrderRun(made, order)
                for tick, row in enumerate(rows):
                    self.assertEqual(run.state, oracle.state(tick))
                    self.assertEqual(run.tick(row), wanted[tick])

    def test_state(self):
        rng = random.Random(6)
        for seed in range(8):
            made = random_flow(seed, 30)
            order = some_order(rng, made)
            rows = random_rows(seed, 12)
            check_ticks(self, lambda: OrderRun(made, order), rows)
            check_state(self, lambda: OrderRun(made, order), rows)

    def test_entries(self):
        run = OrderRun(TWO, order_of(TWO))
        self.assertEqual(run.entries, ())
        run.tick((1,))
        self.assertEqual(run.entries, (1, 1, 0, 0, 0, 0, 0))
        run.state = run.state
        self.assertEqual(run.entries, ())
        run.tick((0,))
        self.assertEqual(run.entries, (0, None, None, 1, 0, None, 0))
        run.resume(run.state)
        self.assertEqual(run.entries, ())


if __name__ == "__main__":
    unittest.main()
