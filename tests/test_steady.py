import itertools
import random
import unittest

from keepsgoing.flowruns import FlowRun
from keepsgoing.flows import is_flow, is_straight
from keepsgoing.kinds import fit, has, values_of
from keepsgoing.ops import result
from keepsgoing.steady import judge_steady, settled, steady
from tests.flowjudge import judged
from tests.randomflows import random_flow, random_rows

BOOL = ("bool",)
NUM = ("num", 0, 5, 1, "wrap")
UP = ("num", 2, 5, 1, "hold")
MODE = ("mode", ("p", "q", "r"))
ROW = ("row", BOOL, 2)
X = (("x", BOOL, 0), ("n", NUM, 0), ("m", MODE, 0))


def reasons(flow, node, paper):
    """All values for which a node has a reason by [32]."""
    nodes = flow[2]
    word, kind, _, *rest = nodes[node]
    found = []
    if word == "const":
        found.append(rest[0])
    elif word == "delay":
        if paper[rest[1]] == rest[0]:
            found.append(rest[0])
    elif word == "when":
        found.append(paper[rest[0]])
    elif word == "merge":
        arms = [paper[arm] for arm in rest[1]]
        if len(set(arms)) == 1:
            found.append(arms[0])
        if paper[rest[0]] is not None:
            found.append(arms[paper[rest[0]]])
    elif word == "beat":
        if rest[0] == 1:
            found.append(1)
    elif word not in ("input", "here"):
        claims = [paper[a] for a in rest]
        if word == "pick":
            if claims[0] is not None:
                found.append(claims[1] if claims[0] else claims[2])
            if claims[1] == claims[2]:
                found.append(claims[1])
        if word == "and" and 0 in claims:
            found.append(0)
        if word == "or" and 1 in claims:
            found.append(1)
        if word == "mul" and 0 in claims:
            found.append(fit(kind, 0))
        if None not in claims:
            found.append(result(word, tuple(nodes[a][1] for a in rest), tuple(claims), kind))
    return [value for value in found if value is not None]


def slow_judge(flow, paper):
    nodes = flow[2]
    if len(paper) != len(nodes):
        return False
    if not all(claim is None or has(node[1], claim) for node, claim in zip(nodes, paper)):
        return False
    return all(claim is None or claim in reasons(flow, node, paper) for node, claim in enumerate(paper))


def slow_steady(flow):
    """From all claims that hang on firsts of delays down to those that have a reason."""
    nodes = flow[2]
    paper = [node[3] if node[0] == "delay" else None for node in nodes]
    while True:
        for _ in nodes:
            paper = [claim if nodes[at][0] == "delay" else (reasons(flow, at, paper) or [None])[0]
                     for at, claim in enumerate(paper)]
        new = [claim if nodes[at][0] != "delay" or reasons(flow, at, paper) else None
               for at, claim in enumerate(paper)]
        if new == paper:
            return tuple(paper)
        paper = new


def flow(*nodes):
    made = ("flow", X, nodes, tuple((f"o{at}", at) for at in range(len(nodes))), (), ())
    assert is_flow(made) and is_straight(made)
    return made


# Nodes that many tests begin with: x, n, m, and consts.
BEGIN = (("input", BOOL, (), 0), ("input", NUM, (), 1), ("input", MODE, (), 2), ("const", BOOL, (), 0),
         ("const", BOOL, (), 1), ("const", NUM, (), 0), ("const", NUM, (), 4))
XX, NN, MM, NO, YES, ZERO, FOUR = range(7)
CLAIMS = (None, None, None, 0, 1, 0, 4)


class Reasons(unittest.TestCase):
    def told(self, *nodes):
        """The greatest claims of the nodes behind the first ones; fewer and other ones are judged."""
        made = flow(*BEGIN, *nodes)
        paper = steady(made)
        self.assertEqual(paper, slow_steady(made))
        self.assertIs(judge_steady(made, paper), True)
        self.assertEqual(paper[:7], CLAIMS)
        for at, node in enumerate(made[2]):
            for value in (None,) + values_of(node[1]):
                other = paper[:at] + (value,) + paper[at + 1:]
                self.assertIs(judge_steady(made, other), slow_judge(made, other))
                if value not in (None, paper[at]):
                    self.assertIs(judge_steady(made, other), False)
        return paper[7:]

    def test_consts_inputs_and_beats(self):
        self.assertEqual(self.told(("const", ROW, (), (0, 1)), ("beat", BOOL, (), 1, 0),
                                   ("beat", BOOL, (), 2, 0), ("beat", BOOL, ((XX, 0),), 1, 0)),
                         ((0, 1), 1, None, 1))

    def test_delays(self):
        self.assertEqual(self.told(("delay", BOOL, (), 0, NO, ()), ("delay", BOOL, (), 1, NO, ()),
                                   ("delay", BOOL, (), 1, YES, (XX,)), ("delay", BOOL, (), 0, XX, ())),
                         (0, None, 1, None))

    def test_delays_in_rings(self):
        self.assertEqual(self.told(("delay", BOOL, (), 0, 8, ()), ("and", BOOL, (), 7, XX),
                                   ("delay", BOOL, (), 1, 10, ()), ("and", BOOL, (), 9, XX),
                                   ("delay", BOOL, (), 1, 12, ()), ("not", BOOL, (), 11),
                                   ("delay", BOOL, (), 0, 14, ()), ("delay", BOOL, (), 0, 13, ()),
                                   ("delay", BOOL, (), 0, 16, ()), ("delay", BOOL, (), 1, 15, ()),
                                   ("delay", BOOL, (), 0, 17, ())),
                         (0, 0, None, None, None, None, 0, 0, None, None, 0))

    def test_claims_that_are_taken_back(self):
        """A delay whose claim has no reason takes back those of all words that had it as theirs."""
        on, off = ((XX, 1),), ((XX, 0),)
        self.assertEqual(self.told(
            ("delay", BOOL, (), 0, 11, ()), ("when", BOOL, on, 7), ("when", BOOL, off, 7),
            ("merge", BOOL, (), XX, (9, 8)), ("not", BOOL, (), 10)), (None,) * 5)
        self.assertEqual(self.told(
            ("delay", BOOL, (), 0, 10, ()), ("const", NUM, ((7, 0),), 3), ("when", NUM, ((7, 1),), NN),
            ("eq", BOOL, (), 11, 12), ("merge", NUM, (), 7, (8, 9)), ("const", NUM, (), 3)),
            (None, 3, None, None, None, 3))
        self.assertEqual(self.told(
            ("delay", BOOL, (), 1, 9, ()), ("pick", NUM, (), 7, FOUR, NN), ("ne", BOOL, (), 8, FOUR),
            ("delay", BOOL, (), 0, 11, ()), ("or", BOOL, (), 7, XX)), (None, None, None, None, None))

    def test_whens(self):
        clock = ((XX, 1),)
        self.assertEqual(self.told(("when", NUM, clock, FOUR), ("when", NUM, clock, NN)), (4, None))

    def test_merges(self):
        def arms(*values):
            return [("const", NUM, ((MM, at),), value) if value is not None
                    else ("when", NUM, ((MM, at),), NN) for at, value in enumerate(values)]
        self.assertEqual(self.told(*arms(3, 3, 3), ("merge", NUM, (), MM, (7, 8, 9))), (3, 3, 3, 3))
        self.assertEqual(self.told(*arms(3, 2, 3), ("merge", NUM, (), MM, (7, 8, 9))), (3, 2, 3, None))
        self.assertEqual(self.told(*arms(3, None, 3), ("merge", NUM, (), MM, (7, 8, 9))), (3, None, 3, None))
        self.assertEqual(self.told(*arms(None, None, None), ("merge", NUM, (), MM, (7, 8, 9))), (None,) * 4)
        one = ("const", NUM, ((YES, 1),), 5)
        other = ("when", NUM, ((YES, 0),), NN)
        self.assertEqual(self.told(one, other, ("merge", NUM, (), YES, (8, 7))), (5, None, 5))
        one, other = ("const", NUM, ((YES, 0),), 5), ("when", NUM, ((YES, 1),), NN)
        self.assertEqual(self.told(one, other, ("merge", NUM, (), YES, (7, 8))), (5, None, None))

    def test_picks(self):
        self.assertEqual(self.told(("pick", NUM, (), YES, FOUR, NN), ("pick", NUM, (), YES, NN, FOUR),
                                   ("pick", NUM, (), NO, NN, FOUR), ("pick", NUM, (), NO, FOUR, NN),
                                   ("pick", NUM, (), XX, FOUR, FOUR), ("pick", NUM, (), XX, FOUR, ZERO),
                                   ("pick", NUM, (), XX, NN, NN)),
                         (4, None, 4, None, 4, None, None))

    def test_logic_and_products(self):
        self.assertEqual(self.told(("and", BOOL, (), XX, NO), ("and", BOOL, (), NO, XX), ("and", BOOL, (), XX, YES),
                                   ("or", BOOL, (), XX, YES), ("or", BOOL, (), YES, XX), ("or", BOOL, (), XX, NO),
                                   ("xor", BOOL, (), XX, XX), ("mul", NUM, (), NN, ZERO),
                                   ("mul", NUM, (), ZERO, NN), ("mul", NUM, (), NN, FOUR), ("add", NUM, (), NN, ZERO),
                                   ("min", NUM, (), NN, ZERO), ("eq", BOOL, (), NN, NN)),
                         (0, 0, None, 1, 1, None, None, 0, 0, None, None, None, None))

    def test_products_are_fitted(self):
        # 0 is not a value of this kind, so nothing claims it.
        self.assertEqual(self.told(("const", UP, (), 3), ("as", UP, (), NN), ("mul", UP, (), 7, 8)),
                         (3, None, None))
        low = ("num", -3, -1, 1, "hold")
        self.assertEqual(self.told(("const", low, (), -2), ("mul", low, (), 7, 7)), (-2, -1))

    def test_operations(self):
        self.assertEqual(self.told(("add", NUM, (), FOUR, FOUR), ("lt", BOOL, (), ZERO, FOUR), ("not", BOOL, (), NO),
                                   ("row", ROW, (), NO, YES), ("any", BOOL, (), 10), ("at", BOOL, (), 10, NN),
                                   ("vote", NUM, (), FOUR, FOUR, NN), ("xor", BOOL, (), YES, YES),
                                   ("as", UP, (), ZERO)),
                         (2, 1, 1, (0, 1), 1, None, None, 0, 2))


class Judge(unittest.TestCase):
    def test_wrong_papers(self):
        made = flow(*BEGIN, ("row", ROW, (), NO, YES))
        good = CLAIMS + ((0, 1),)
        self.assertIs(judge_steady(made, good), True)
        self.assertIs(judge_steady(made, (None,) * 8), True)
        self.assertIs(judge_steady(made, (None,) * 3 + (0,) + (None,) * 4), True)
        for bad in ((), good[:-1], good + (None,), good[:7] + ((0,),), good[:7] + ((0, 1, 0),), good[:7] + (1,),
                    good[:7] + ((0, 2),), good[:7] + ((0, None),), good[:7] + ("p",), (1,) + good[1:],
                    good[:3] + (2,) + good[4:], good[:3] + (-1,) + good[4:], good[:3] + ((0,),) + good[4:],
                    good[:5] + (6,) + good[6:], (None,) * 7 + ((0, 1),), good[:4] + (None,) + good[5:]):
            self.assertIs(judge_steady(made, bad), False, bad)

    def test_wrong_values_that_are_operands(self):
        # The nodes that look at a wrong claim stand ahead of it.
        made = flow(("add", NUM, (), 2, 3), ("at", BOOL, (), 4, 2), ("const", NUM, (), 1), ("input", NUM, (), 1),
                    ("const", ROW, (), (0, 1)), ("merge", NUM, (), 8, (6, 7)), ("const", NUM, ((8, 0),), 1),
                    ("const", NUM, ((8, 1),), 1), ("const", BOOL, (), 0))
        good = (None, 1, 1, None, (0, 1), 1, 1, 1, 0)
        self.assertIs(judge_steady(made, good), True)
        for at in (2, 3, 4, 8):
            for claim in ("p", (), (1,), (0, 1, 0), -7, 1000000, ((0, 1), 0)):
                for first in (None, 0):
                    paper = (first,) + good[1:at] + (claim,) + good[at + 1:]
                    self.assertIs(judge_steady(made, paper), False, paper)

    def test_less_is_not_always_taken(self):
        # A claim that another one has as its reason cannot be left out alone.
        made = flow(*BEGIN, ("delay", BOOL, (), 0, 8, ()), ("and", BOOL, (), 7, XX))
        self.assertIs(judge_steady(made, CLAIMS + (0, 0)), True)
        self.assertIs(judge_steady(made, CLAIMS + (None, None)), True)
        self.assertIs(judge_steady(made, CLAIMS + (0, None)), False)
        self.assertIs(judge_steady(made, CLAIMS + (None, 0)), False)


class Greatest(unittest.TestCase):
    def test_random_flows(self):
        claims = 0
        for seed in range(90):
            made = random_flow(seed, 12 + seed % 50)
            paper = steady(made)
            self.assertEqual(paper, slow_steady(made), seed)
            self.assertIs(judge_steady(made, paper), True)
            claims += sum(claim is not None and node[0] != "const" for claim, node in zip(paper, made[2]))
        self.assertGreater(claims, 100)

    def test_every_claim_of_every_paper(self):
        """All papers of small flows of bools are tried."""
        rng = random.Random(6)
        for _ in range(25):
            nodes = [("input", BOOL, (), 0), ("const", BOOL, (), rng.choice((0, 1)))]
            for at in range(2, 8):
                a, b = rng.randrange(at), rng.randrange(at)
                nodes.append(rng.choice([("delay", BOOL, (), rng.choice((0, 1)), rng.randrange(8), ()),
                                         ("and", BOOL, (), a, b), ("or", BOOL, (), a, b), ("not", BOOL, (), a),
                                         ("pick", BOOL, (), a, b, rng.randrange(at))]))
            made = flow(*nodes)
            greatest = steady(made)
            for paper in itertools.product((None, 0, 1), repeat=8):
                if judge_steady(made, paper):
                    self.assertTrue(all(claim in (None, other) for claim, other in zip(paper, greatest)))

    def test_random_papers(self):
        rng = random.Random(7)
        for seed in range(40):
            made = random_flow(seed, 25)
            greatest = steady(made)
            for _ in range(10):
                paper = list(greatest)
                for _ in range(rng.choice([1, 2])):
                    at = rng.randrange(25)
                    paper[at] = rng.choice((None,) + values_of(made[2][at][1]))
                self.assertIs(judge_steady(made, tuple(paper)), slow_judge(made, paper))

    def test_claims_hold(self):
        for seed in range(40):
            made = random_flow(seed, 40)
            paper = steady(made)
            run = FlowRun(made)
            for row in random_rows(seed, 12):
                run.tick(row)
                for claim, entry in zip(paper, run.entries):
                    self.assertTrue(None in (claim, entry) or claim == entry)

    def test_long_chains(self):
        nodes = [("delay", BOOL, (), 0, at + 1, ()) for at in range(1999)]
        made = flow(*nodes, ("const", BOOL, (), 0))
        self.assertEqual(steady(made), (0,) * 2000)
        made = flow(*nodes, ("input", BOOL, (), 0))
        self.assertEqual(steady(made), (None,) * 2000)


class Settled(unittest.TestCase):
    def test_by_hand(self):
        made = flow(*BEGIN, ("and", BOOL, ((NO, 1),), 8, 8), ("when", BOOL, ((NO, 1),), NO))
        self.assertEqual(settled(made, steady(made))[2][7:],
                         (("const", BOOL, ((NO, 1),), 0), ("const", BOOL, ((NO, 1),), 0)))
        self.assertEqual(settled(made, (None,) * 9), made)

    def test_shows_the_same(self):
        for seed in range(60):
            made = random_flow(seed, 12 + seed)
            rows = random_rows(seed, 9)
            paper = steady(made)
            got = settled(made, paper)
            self.assertTrue(judged(got) and is_straight(got))
            self.assertEqual(got[1], made[1])
            self.assertEqual(got[3:], made[3:])
            for node, claim, old in zip(got[2], paper, made[2]):
                self.assertEqual(node, old if claim is None else ("const",) + old[1:3] + (claim,))
            self.assertEqual(list(FlowRun(got).ticks(rows)), list(FlowRun(made).ticks(rows)))


if __name__ == "__main__":
    unittest.main()
