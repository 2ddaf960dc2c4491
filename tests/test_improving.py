import unittest

from keepsgoing.alike import alike
from keepsgoing.checking import checked
from keepsgoing.errors import CheckFault
from keepsgoing.flatten import flatten
from keepsgoing.flowof import flow_of
from keepsgoing.flowruns import FlowRun
from keepsgoing.flows import is_flow, is_straight, memory_of
from keepsgoing.improving import improved, needed, swept
from keepsgoing.reading import read_program
from keepsgoing.steady import steady
from tests.flowjudge import judged
from tests.knotflows import hangs_on
from tests.randomflows import random_flow, random_rows
from tests.randomprograms import random_program
from tests.randomprograms import random_rows as program_rows
from tests.test_classes import twice

BOOL = ("bool",)
NUM = ("num", 0, 5, 1, "wrap")
X = (("x", BOOL, 0), ("y", BOOL, 0), ("e", NUM, 1), ("l", NUM, 2))


def flow(nodes, outputs=(), assumes=(), keeps=()):
    shown = [tuple((f"{word}{node}", node) for node in each)
             for word, each in (("o", outputs), ("p", assumes), ("q", keeps))]
    made = ("flow", X, tuple(nodes)) + tuple(shown)
    assert is_flow(made) and is_straight(made)
    return made


def slow_needed(made):
    nodes = made[2]
    found = {node for part in made[3:] for _, node in part}
    while True:
        more = set(found)
        for node in found:
            more |= hangs_on(nodes[node])
            if nodes[node][0] == "delay":
                more.add(nodes[node][4])
        if more == found:
            return tuple(sorted(found))
        found = more


def some_shown(made, seed):
    """The flow with few of its outputs."""
    outputs = tuple(each for at, each in enumerate(made[3]) if at % 7 == seed % 7)
    return made[:3] + (outputs,) + made[4:]


class Needed(unittest.TestCase):
    def test_each_way(self):
        clock = ((1, 1),)
        nodes = [("input", BOOL, (), 0), ("input", BOOL, (), 1), ("when", BOOL, clock, 0),
                 ("not", BOOL, clock, 2), ("delay", BOOL, (), 0, 5, (7,)), ("not", BOOL, (), 6),
                 ("const", BOOL, (), 1), ("const", BOOL, (), 0), ("const", NUM, ((7, 0),), 3),
                 ("const", NUM, ((7, 1),), 4), ("merge", NUM, (), 7, (8, 9)), ("beat", BOOL, clock, 2, 0),
                 ("here", BOOL, (), 2), ("input", NUM, ((12, 1),), 2)]
        self.assertEqual(needed(flow(nodes, (0,))), (0,))
        self.assertEqual(needed(flow(nodes, (2,))), (0, 1, 2))
        self.assertEqual(needed(flow(nodes, (3,))), (0, 1, 2, 3))
        self.assertEqual(needed(flow(nodes, (4,))), (4, 5, 6, 7))
        self.assertEqual(needed(flow(nodes, (10,))), (7, 8, 9, 10))
        self.assertEqual(needed(flow(nodes, (11,))), (1, 11))
        self.assertEqual(needed(flow(nodes, (13,))), (12, 13))
        self.assertEqual(needed(flow(nodes, (12,))), (12,))
        self.assertEqual(needed(flow(nodes, (), (7,), (5,))), (5, 6, 7))
        self.assertEqual(needed(flow(nodes, (), (5,))), (5, 6))
        self.assertEqual(needed(flow(nodes)), ())

    def test_random_flows(self):
        for seed in range(60):
            made = some_shown(random_flow(seed, 15 + seed), seed)
            self.assertEqual(needed(made), slow_needed(made))


class Swept(unittest.TestCase):
    def test_by_hand(self):
        nodes = [("not", BOOL, (), 3), ("input", BOOL, (), 1), ("delay", BOOL, (), 1, 4, (1, 3)),
                 ("input", BOOL, (), 0), ("not", BOOL, (), 1), ("const", BOOL, ((1, 1),), 0),
                 ("const", BOOL, ((1, 0),), 1), ("merge", BOOL, (), 1, (6, 5))]
        self.assertEqual(swept(flow(nodes, (2, 4), (7,), (2,))), (
            "flow", X, (("input", BOOL, (), 1), ("delay", BOOL, (), 1, 3, (0, 2)), ("input", BOOL, (), 0),
                        ("not", BOOL, (), 0), ("const", BOOL, ((0, 1),), 0), ("const", BOOL, ((0, 0),), 1),
                        ("merge", BOOL, (), 0, (5, 4))),
            (("o2", 1), ("o4", 3)), (("p7", 6),), (("q2", 1),)))

    def test_shows_the_same(self):
        for seed in range(60):
            made = some_shown(random_flow(seed, 15 + seed), seed)
            got = swept(made)
            self.assertTrue(judged(got) and is_straight(got))
            self.assertEqual(got[1], made[1])
            self.assertEqual(needed(got), tuple(range(len(got[2]))))
            self.assertEqual([node[:2] for node in got[2]], [made[2][node][:2] for node in needed(made)])
            rows = random_rows(seed, 9)
            self.assertEqual(list(FlowRun(got).ticks(rows)), list(FlowRun(made).ticks(rows)))


class Improved(unittest.TestCase):
    def improves(self, made, rows):
        got = improved(made)
        self.assertTrue(judged(got) and is_flow(got) and is_straight(got))
        self.assertEqual(got[1], made[1])
        self.assertEqual([[name for name, _ in part] for part in got[3:]],
                         [[name for name, _ in part] for part in made[3:]])
        many = len(got[2])
        self.assertLessEqual(many, len(made[2]))
        self.assertLessEqual(len(memory_of(got)), len(memory_of(made)))
        self.assertEqual(needed(got), tuple(range(many)))
        self.assertEqual(alike(got), tuple(range(many)))
        for node, claim in zip(got[2], steady(got)):
            self.assertEqual(claim is not None, node[0] == "const")
        self.assertEqual(improved(got), got)
        self.assertEqual(list(FlowRun(got).ticks(rows)), list(FlowRun(made).ticks(rows)))
        return got

    def test_by_hand(self):
        # The const that the steady nodes become is there once; x is needed no more.
        nodes = [("input", BOOL, (), 0), ("const", BOOL, (), 0), ("and", BOOL, (), 0, 1), ("and", BOOL, (), 1, 0),
                 ("delay", BOOL, (), 0, 3, ()), ("or", BOOL, (), 2, 4), ("input", BOOL, (), 1),
                 ("not", BOOL, (), 6), ("not", BOOL, (), 6)]
        got = self.improves(flow(nodes, (5, 7, 8), (2,)), [(x, y, None, 0) for x in (0, 1) for y in (0, 1)])
        self.assertEqual(len(got[2]), 3)
        self.assertEqual(len(memory_of(got)), 0)

    def test_events_and_clocks(self):
        nodes = [("here", BOOL, (), 2), ("input", NUM, ((0, 1),), 2), ("const", NUM, ((0, 0),), 3),
                 ("merge", NUM, (), 0, (2, 1)), ("const", BOOL, (), 1), ("when", NUM, ((4, 1),), 3),
                 ("input", NUM, ((4, 1),), 3), ("beat", BOOL, ((4, 1),), 1, 0)]
        rows = [(0, 0, e, l) for e in (None, 2, 5) for l in (0, 4)]
        self.improves(flow(nodes, (5, 6)), rows)
        self.improves(flow(nodes, (1,), (7,)), rows)
        self.improves(flow(nodes, (3, 2)), rows)

    def test_random_flows(self):
        for seed in range(70):
            made = some_shown(random_flow(seed, 15 + seed), seed)
            self.improves(made, random_rows(seed, 9))
            made = twice(random_flow(seed, 15 + seed % 20))
            got = self.improves(made, random_rows(seed, 9))
            self.assertLessEqual(len(got[2]), len(made[2]) - 6)

    def test_flows_of_programs(self):
        let = 0
        for seed in range(30):
            text, kinds = random_program(seed)
            flat = flatten(read_program(text))
            try:
                checked(flat)
            except CheckFault:
                continue
            let += 1
            self.improves(flow_of(flat), program_rows(seed, kinds, 15))
        self.assertGreater(let, 20)


if __name__ == "__main__":
    unittest.main()
