import itertools
import random
import unittest

from keepsgoing.alike import alike
from keepsgoing.classes import judge_classes, merged
from keepsgoing.flowruns import FlowRun
from keepsgoing.flows import is_flow, is_straight
from tests.flowjudge import judged
from tests.randomflows import random_flow, random_rows

BOOL = ("bool",)
NUM = ("num", 0, 5, 1, "wrap")


def replaced(node, numbers):
    """A node with numbers of nodes exchanged; of resets the different ones count, ascending."""
    word, kind, clock, *rest = node
    start = (word, kind, tuple((numbers[c], v) for c, v in clock))
    if word in ("input", "here", "const", "beat"):
        return start + tuple(rest)
    if word == "merge":
        return start + (numbers[rest[0]], tuple(numbers[arm] for arm in rest[1]))
    if word == "delay":
        return start + (rest[0], numbers[rest[1]], tuple(sorted({numbers[r] for r in rest[2]})))
    return start + tuple(numbers[a] for a in rest)


def slow_judge(flow, paper):
    nodes = flow[2]
    if len(paper) != len(nodes):
        return False
    for node, leader in enumerate(paper):
        if type(leader) is not int or not 0 <= leader <= node or paper[leader] != leader:
            return False
    return all(replaced(nodes[node], paper) == replaced(nodes[leader], paper)
               for node, leader in enumerate(paper))


def slow_alike(flow):
    """All nodes are in one class at first; classes are split as long as some nodes look unlike."""
    nodes = flow[2]
    paper = (0,) * len(nodes)
    while True:
        looks = [(paper[at], replaced(node, paper)) for at, node in enumerate(nodes)]
        new = tuple(looks.index(look) for look in looks)
        if new == paper:
            return paper
        paper = new


def twice(flow):
    """A flow with each node a second time, behind the others, and delays that cross over."""
    word, inputs, nodes, outputs, assumes, keeps = flow
    many = len(nodes)
    shifted = [replaced(node, range(many, 2 * many)) for node in nodes]
    crossed = []
    for at, node in enumerate(nodes):
        if node[0] == "delay" and at % 2 and node[2] == ():
            node = node[:4] + (node[4] + many,) + node[5:]
        crossed.append(node)
    more = tuple((name + "b", node + many) for name, node in outputs)
    return (word, inputs, tuple(crossed + shifted), outputs + more, assumes, keeps)


def flow(inputs, *nodes):
    made = ("flow", inputs, nodes, tuple((f"o{at}", at) for at in range(len(nodes))), (), ())
    assert is_flow(made) and is_straight(made)
    return made


X = (("x", BOOL, 0), ("y", BOOL, 0), ("z", BOOL, 1))


class Judge(unittest.TestCase):
    def judge(self, made, paper, wanted):
        self.assertIs(judge_classes(made, paper), wanted)
        self.assertIs(slow_judge(made, paper), wanted)

    def test_leaders(self):
        made = flow(X, *[("input", BOOL, (), 0)] * 3, ("not", BOOL, (), 0), ("not", BOOL, (), 1))
        for good in ((0, 0, 0, 3, 3), (0, 0, 2, 3, 3), (0, 1, 2, 3, 4), (0, 0, 0, 3, 4), (0, 0, 1 + 1, 3, 4)):
            self.judge(made, good, True)
        for bad in ((), (0, 0, 0, 3), (0, 0, 0, 3, 3, 3), (0, 1, 2, 3, 3), (1, 1, 2, 3, 4), (0, 0, 1, 3, 3),
                    (0, -1, 0, 3, 3), (0, 0, 0, 3, 5), (0, 0, 0, 3, 0), (0, 0, 0, 0, 4), (5, 5, 5, 5, 5),
                    (0, 0, 0, 3, 1000000), (-1,) * 5):
            self.judge(made, bad, False)

    def test_each_part_of_a_node(self):
        clock = ((0, 1),)
        pairs = [
            (("input", BOOL, (), 0), ("input", BOOL, (), 1)),
            (("not", BOOL, (), 0), ("not", BOOL, (), 1)),
            (("and", BOOL, (), 0, 1), ("or", BOOL, (), 0, 1)),
            (("and", BOOL, (), 0, 1), ("and", BOOL, (), 1, 0)),
            (("const", BOOL, (), 0), ("const", BOOL, (), 1)),
            (("const", NUM, (), 0), ("const", BOOL, (), 0)),
            (("const", BOOL, (), 0), ("const", BOOL, clock, 0)),
            (("const", BOOL, clock, 0), ("const", BOOL, ((0, 0),), 0)),
            (("const", BOOL, clock, 0), ("const", BOOL, ((1, 1),), 0)),
            (("beat", BOOL, (), 3, 1), ("beat", BOOL, (), 3, 2)),
            (("beat", BOOL, (), 3, 1), ("beat", BOOL, (), 4, 1)),
            (("delay", BOOL, (), 0, 0, ()), ("delay", BOOL, (), 1, 0, ())),
            (("delay", BOOL, (), 0, 0, ()), ("delay", BOOL, (), 0, 1, ())),
            (("delay", BOOL, (), 0, 0, ()), ("delay", BOOL, (), 0, 0, (1,))),
            (("delay", BOOL, (), 0, 0, (0,)), ("delay", BOOL, (), 0, 0, (1,))),
            (("when", BOOL, clock, 0), ("when", BOOL, clock, 1)),
            (("row", ("row", BOOL, 1), (), 0), ("row", ("row", BOOL, 2), (), 0, 1)),
            (("row", ("row", BOOL, 2), (), 0, 0), ("row", ("row", BOOL, 2), (), 0, 1)),
        ]
        for one, two in pairs:
            made = flow(X, ("input", BOOL, (), 0), ("input", BOOL, (), 1), one, two, one)
            self.judge(made, (0, 1, 2, 3, 2), True)
            self.judge(made, (0, 1, 2, 2, 2), False)
            self.judge(made, (0, 1, 2, 2, 4), False)

    def test_merges(self):
        made = flow(X, ("input", BOOL, (), 0), ("const", NUM, ((0, 0),), 1), ("const", NUM, ((0, 0),), 1),
                    ("const", NUM, ((0, 1),), 2), ("merge", NUM, (), 0, (1, 3)), ("merge", NUM, (), 0, (2, 3)))
        self.judge(made, (0, 1, 1, 3, 4, 4), True)
        self.judge(made, (0, 1, 2, 3, 4, 4), False)

    def test_clocks(self):
        # The clocks are equal only if the nodes in them have one leader.
        made = flow(X, ("input", BOOL, (), 0), ("input", BOOL, (), 0), ("const", NUM, ((0, 1),), 1),
                    ("const", NUM, ((1, 1),), 1))
        self.judge(made, (0, 0, 2, 2), True)
        self.judge(made, (0, 1, 2, 2), False)

    def test_resets_are_compared_as_leaders(self):
        made = flow(X, *[("input", BOOL, (), 0)] * 3, ("input", BOOL, (), 1),
                    ("delay", BOOL, (), 0, 3, (0, 1)), ("delay", BOOL, (), 0, 3, (2,)),
                    ("delay", BOOL, (), 0, 3, (1, 3)))
        self.judge(made, (0, 0, 0, 3, 4, 4, 6), True)
        self.judge(made, (0, 0, 2, 3, 4, 4, 6), False)
        self.judge(made, (0, 0, 0, 3, 4, 4, 4), False)
        self.assertEqual(alike(made), (0, 0, 0, 3, 4, 4, 6))
        self.assertEqual(merged(made, (0, 0, 0, 3, 4, 4, 6))[2][2:],
                         (("delay", BOOL, (), 0, 1, (0,)), ("delay", BOOL, (), 0, 1, (0, 1))))

    def test_rings_through_delays(self):
        made = flow(X, ("delay", BOOL, (), 0, 1, ()), ("not", BOOL, (), 0),
                    ("delay", BOOL, (), 0, 3, ()), ("not", BOOL, (), 2),
                    ("delay", BOOL, (), 1, 5, ()), ("not", BOOL, (), 4))
        self.judge(made, (0, 1, 0, 1, 4, 5), True)
        self.judge(made, (0, 1, 0, 3, 4, 5), False)
        self.judge(made, (0, 1, 2, 1, 4, 5), False)
        self.judge(made, (0, 1, 0, 1, 0, 1), False)
        self.assertEqual(alike(made), (0, 1, 0, 1, 4, 5))

    def test_random_papers(self):
        rng = random.Random(2)
        for seed in range(30):
            made = twice(random_flow(seed, 14))
            paper = list(alike(made))
            self.judge(made, tuple(paper), True)
            for _ in range(12):
                changed = list(paper)
                for _ in range(rng.choice([1, 2])):
                    changed[rng.randrange(28)] = rng.randrange(-1, 29)
                self.judge(made, tuple(changed), slow_judge(made, tuple(changed)))


class Alike(unittest.TestCase):
    def test_random_flows(self):
        for seed in range(60):
            made = random_flow(seed, 12 + seed)
            self.assertEqual(alike(made), slow_alike(made), seed)
            made = twice(random_flow(seed, 12 + seed % 20))
            self.assertTrue(judged(made))
            self.assertEqual(alike(made), slow_alike(made), seed)

    def test_greatest_of_all_papers(self):
        """All papers of small flows are tried."""
        x = ("input", BOOL, (), 0)
        delays = [("delay", BOOL, (), first, a, resets) for first, a, resets in itertools.product(
            (0, 1), range(2, 8), ((), (0,), (0, 1)))]
        rng = random.Random(1)
        for _ in range(12):
            made = flow(X, x, x, *[rng.choice(delays + [("not", BOOL, (), rng.randrange(2))] * 9)
                                   for _ in range(6)])
            many = 8
            told = alike(made)
            for paper in itertools.product(*[range(at + 1) for at in range(many)]):
                if all(paper[leader] == leader for leader in paper) and judge_classes(made, paper):
                    for node, leader in enumerate(paper):
                        self.assertEqual(told[node], told[leader])

    def test_crossed_rings(self):
        """Two counters that feed each other's delays are alike, and so is a third one."""
        def counter(at, other):
            return [("delay", NUM, (), 0, other + 2, ()), ("const", NUM, (), 1), ("add", NUM, (), at, at + 1)]
        made = flow(X, *counter(0, 3), *counter(3, 0), *counter(6, 6))
        self.assertEqual(alike(made), (0, 1, 2) * 3)
        self.assertEqual(len(merged(made, alike(made))[2]), 3)

    def test_merges(self):
        """Merges with other arms, or by other nodes, are not alike."""
        nodes = [("input", BOOL, (), 0), ("input", BOOL, (), 1)]
        for c in (0, 0, 1):
            nodes += [("const", NUM, ((c, 0),), 1), ("const", NUM, ((c, 0),), 2), ("const", NUM, ((c, 1),), 3)]
        nodes += [("merge", NUM, (), c, arms) for c, arms in (
            (0, (2, 4)), (0, (3, 4)), (0, (5, 7)), (0, (2, 7)), (1, (8, 10)), (0, (6, 4)))]
        made = flow(X, *nodes)
        self.assertEqual(alike(made), slow_alike(made))
        self.assertEqual(alike(made)[11:], (11, 12, 11, 11, 15, 12))
        same = [("input", BOOL, (), 0)] * 2 + [("merge", BOOL, (), at, (at + 4, at + 6)) for at in range(2)]
        same += [("const", BOOL, ((at % 2, at // 2),), 0) for at in range(4)]
        made = flow(X, *same)
        self.assertEqual(alike(made), (0, 0, 2, 2, 4, 4, 6, 6))

    def test_long_chains(self):
        nodes = [("delay", BOOL, (), 0, at + 1, ()) for at in range(1999)] + [("input", BOOL, (), 0)]
        made = flow(X, *nodes)
        self.assertEqual(alike(made), tuple(range(2000)))
        nodes = [("delay", BOOL, (), 0, (at + 1) % 2000, ()) for at in range(2000)]
        self.assertEqual(alike(flow(X, *nodes)), (0,) * 2000)
        nodes[1999] = ("delay", BOOL, (), 1, 0, ())
        self.assertEqual(alike(flow(X, *nodes)), tuple(range(2000)))


class Merged(unittest.TestCase):
    def test_by_hand(self):
        clock = ((1, 1),)
        made = flow(X, ("input", BOOL, (), 0), ("input", BOOL, (), 0), ("when", BOOL, clock, 1),
                    ("when", BOOL, ((0, 1),), 0), ("delay", BOOL, clock, 1, 2, (0, 1)))
        paper = (0, 0, 2, 2, 4)
        self.assertIs(judge_classes(made, paper), True)
        self.assertEqual(merged(made, paper), (
            "flow", X, (("input", BOOL, (), 0), ("when", BOOL, ((0, 1),), 0),
                        ("delay", BOOL, ((0, 1),), 1, 1, (0,))),
            (("o0", 0), ("o1", 0), ("o2", 1), ("o3", 1), ("o4", 2)), (), ()))

    def test_shows_the_same(self):
        rng = random.Random(4)
        for seed in range(50):
            made = twice(random_flow(seed, 12 + seed % 20))
            rows = random_rows(seed, 9)
            wanted = list(FlowRun(made).ticks(rows))
            greatest = alike(made)
            papers = [greatest, tuple(range(len(made[2])))]
            for _ in range(4):
                # Some smaller paper: pairs of leaders taken apart, if the judge lets it.
                some = tuple(leader if rng.random() < 0.8 else at for at, leader in enumerate(greatest))
                if judge_classes(made, some):
                    papers.append(some)
            for paper in papers:
                got = merged(made, paper)
                self.assertTrue(judged(got) and is_straight(got))
                self.assertEqual(got[1], made[1])
                self.assertEqual([[name for name, _ in part] for part in got[3:]],
                                 [[name for name, _ in part] for part in made[3:]])
                self.assertEqual(list(FlowRun(got).ticks(rows)), wanted)
            self.assertEqual(len(merged(made, greatest)[2]), len(set(greatest)))
            self.assertEqual(merged(made, papers[1]), made)


if __name__ == "__main__":
    unittest.main()
