"""Splits and parts: [41], [44]."""

import unittest

from keepsgoing.flowruns import FlowRun
from keepsgoing.flows import is_flow, is_straight
from keepsgoing.kinds import zero
from keepsgoing.parts import parts_of
from keepsgoing.splits import crossing, early, foreign
from tests.flowjudge import judged
from tests.randomflows import FlowOracle, random_flow, random_rows
from tests.randomsplits import is_early, needs, random_split, slow_crossing, slow_foreign

BOOL = ("bool",)
NUM = ("num", 0, 5, 1, "wrap")
MODE = ("mode", ("a", "b"))
INPUTS = (("x", NUM, 0), ("e", NUM, 1))


def flow(*nodes, shown=()):
    made = ("flow", INPUTS, nodes, shown or (("o", len(nodes) - 1),), (), ())
    assert is_flow(made) and is_straight(made)
    return made


class Foreign(unittest.TestCase):
    def check(self, made, split, *wanted):
        for controller, nodes in enumerate(wanted):
            self.assertEqual(foreign(made, split, controller), nodes, controller)
            self.assertEqual(slow_foreign(made, split, controller), nodes)
        told = tuple(sorted({node for nodes in wanted for node in nodes}))
        self.assertEqual(crossing(made, split), told)

    def test_one_controller(self):
        made = flow(("input", NUM, (), 0), ("neg", NUM, (), 0))
        self.check(made, (0, 0), ())

    def test_operands(self):
        made = flow(("input", NUM, (), 0), ("neg", NUM, (), 0), ("add", NUM, (), 1, 0), ("sub", NUM, (), 1, 1))
        self.check(made, (0, 0, 1, 1), (), (0, 1))
        self.check(made, (0, 1, 1, 0), (1,), (0,))
        self.check(made, (1, 2, 0, 0), (0, 1), (), (0,))

    def test_the_a_of_a_delay(self):
        made = flow(("input", NUM, (), 0), ("delay", NUM, (), 0, 2, ()), ("add", NUM, (), 0, 1))
        self.check(made, (0, 1, 0), (1,), (2,))

    def test_resets_and_clocks(self):
        made = flow(("input", NUM, (), 0), ("const", BOOL, (), 1), ("lt", BOOL, (), 0, 0),
                    ("delay", NUM, (), 0, 0, (1,)), ("when", NUM, ((2, 1),), 0), ("beat", BOOL, ((2, 1),), 2, 0),
                    ("const", NUM, ((2, 1), (5, 1)), 3))
        self.check(made, (0, 1, 1, 0, 0, 0, 0), (1, 2), (0,))
        # A const, too, needs the nodes of its clock; a beat in a clock alone is needed as well.
        self.check(made, (0, 0, 0, 0, 0, 1, 2), (), (2,), (2, 5))

    def test_merges(self):
        made = flow(("input", NUM, (), 0), ("lt", BOOL, (), 0, 0), ("when", NUM, ((1, 0),), 0),
                    ("const", NUM, ((1, 1),), 2), ("merge", NUM, (), 1, (2, 3)))
        self.check(made, (0, 0, 0, 0, 1), (), (1, 2, 3))
        self.check(made, (0, 0, 0, 1, 1), (), (1, 2))

    def test_inputs_of_events(self):
        made = flow(("here", BOOL, (), 1), ("input", NUM, ((0, 1),), 1), ("neg", NUM, ((0, 1),), 1))
        self.check(made, (0, 0, 1), (), (0, 1))
        self.check(made, (1, 1, 0), (0, 1), ())

    def test_random_splits(self):
        for seed in range(60):
            made = random_flow(seed, 8 + seed)
            split = random_split(seed, made, 1 + seed % 4)
            self.check(made, split, *[slow_foreign(made, split, q) for q in range(1 + seed % 4)])
            self.assertEqual(crossing(made, split), slow_crossing(made, split))

    def test_early(self):
        made = flow(("input", NUM, (), 0), ("delay", NUM, (), 0, 0, ()), ("lt", BOOL, (), 0, 0),
                    ("delay", NUM, (), 0, 0, (2,)), ("when", NUM, ((2, 1),), 0), ("delay", NUM, ((2, 1),), 0, 4, ()),
                    ("beat", BOOL, (), 2, 0))
        self.assertEqual([early(made, node) for node in range(7)], [False, True] + [False] * 5)
        for seed in range(20):
            made = random_flow(seed, 40)
            for node in range(40):
                self.assertIs(early(made, node), is_early(made, node))


class Parts(unittest.TestCase):
    def test_by_hand(self):
        made = flow(
            ("input", NUM, (), 0), ("here", BOOL, (), 1), ("input", NUM, ((1, 1),), 1),
            ("delay", NUM, ((1, 1),), 3, 2, (1,)), ("add", NUM, ((1, 1),), 2, 3), ("neg", NUM, (), 0),
            shown=(("p", 4), ("q", 5), ("r", 0), ("s", 4)))
        one, two = parts_of(made, (1, 0, 0, 1, 1, 0))
        self.assertEqual(one, (
            "flow", INPUTS + (("node@0", NUM, 2),),
            (("input", NUM, (), 2), ("here", BOOL, (), 1), ("input", NUM, ((1, 1),), 1), ("neg", NUM, (), 0)),
            (("q", 3),), (), ()))
        self.assertEqual(two, (
            "flow", INPUTS + (("node@1", BOOL, 2), ("node@2", NUM, 2)),
            (("input", NUM, (), 0), ("input", BOOL, (), 2), ("input", NUM, ((1, 1),), 3),
             ("delay", NUM, ((1, 1),), 3, 2, (1,)), ("add", NUM, ((1, 1),), 2, 3)),
            (("p", 4), ("r", 0), ("s", 4)), (), ()))

    def test_assumes_and_keeps(self):
        made = ("flow", (("a", BOOL, 0), ("b", BOOL, 0)), (("input", BOOL, (), 0), ("input", BOOL, (), 1)),
                (("o", 1),), (("p", 0), ("q", 1)), (("r", 1), ("s", 0), ("t", 1)))
        one, two = parts_of(made, (1, 0))
        self.assertEqual(one, ("flow", made[1], (("input", BOOL, (), 1),), (("o", 0),), (("q", 0),), (("r", 0), ("t", 0))))
        self.assertEqual(two, ("flow", made[1], (("input", BOOL, (), 0),), (), (("p", 0),), (("s", 0),)))
        self.assertEqual(parts_of(made, (0, 0)), (made,))

    def test_random_parts(self):
        for seed in range(80):
            made = random_flow(seed, 8 + seed % 50)
            many = 1 + seed % 4
            split = random_split(seed, made, many)
            parts = parts_of(made, split)
            self.assertEqual(len(parts), many)
            for q, part in enumerate(parts):
                self.check_part(made, split, q, part)

    def check_part(self, made, split, q, part):
        word, inputs, nodes, outputs, assumes, keeps = part
        others = slow_foreign(made, split, q)
        self.assertEqual(word, "flow")
        self.assertTrue(judged(part) and is_flow(part) and is_straight(part))
        self.assertEqual(inputs, made[1] + tuple((f"node@{node}", made[2][node][1], 2) for node in others))
        held = [node for node in range(len(split)) if split[node] == q or node in others]
        self.assertEqual(len(nodes), len(held))
        for got, node in zip(nodes, held):
            wanted = made[2][node]
            self.assertEqual(got[1], wanted[1])
            self.assertEqual([(held[c], v) for c, v in got[2]], list(wanted[2]))
            if node in others:
                self.assertEqual((got[0], got[3]), ("input", len(made[1]) + others.index(node)))
            else:
                self.assertEqual(got[0], wanted[0])
                self.assertLessEqual(needs(made, node), set(held))
                self.assertEqual({held[each] for each in needs(part, nodes.index(got))}, needs(made, node))
        for got, wanted in ((outputs, made[3]), (assumes, made[4]), (keeps, made[5])):
            self.assertEqual([(name, held[node]) for name, node in got],
                             [(name, node) for name, node in wanted if split[node] == q])

    def test_parts_that_are_given_the_right_values(self):
        """A part shows what the flow shows if its loose inputs get what the foreign nodes have."""
        for seed in range(40):
            made = random_flow(seed, 10 + seed % 40)
            split = random_split(seed, made, 1 + seed % 4)
            rows = random_rows(seed, 8)
            oracle = FlowOracle(made, rows)
            for q, part in enumerate(parts_of(made, split)):
                run = FlowRun(part)
                shown = [node for _, node in made[3] + made[4] + made[5] if split[node] == q]
                for tick, row in enumerate(rows):
                    coming = tuple(
                        zero(made[2][node][1]) if oracle.value(node, tick) is None else oracle.value(node, tick)
                        for node in slow_foreign(made, split, q))
                    self.assertEqual(run.tick(row + coming), tuple(oracle.value(node, tick) for node in shown))


if __name__ == "__main__":
    unittest.main()
