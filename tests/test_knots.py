import unittest

from keepsgoing.errors import TooLarge
from keepsgoing.flowruns import FlowRun
from keepsgoing.flows import is_flow, is_straight, knots_of
from keepsgoing.knotruns import KnotRun
from keepsgoing.knots import entering, judge_knots, settles
from keepsgoing.opening import opened
from tests.flowjudge import judged
from tests.knotflows import (KnotOracle, knot_flow, slow_entering, slow_knots, slow_let,
                             slow_settles)
from tests.randomflows import random_flow, random_rows
from tests.runchecks import check_state, check_ticks

BOOL = ("bool",)
INPUTS = tuple((f"i{at}", BOOL, 0) for at in range(10))
MANY = len(INPUTS)


def flow(*knot, more=()):
    """Ten inputs, the const 0 and the const 1 as nodes 10 and 11, then nodes from 12 on."""
    nodes = tuple(("input", BOOL, (), at) for at in range(MANY))
    nodes += (("const", BOOL, (), 0), ("const", BOOL, (), 1))
    nodes += tuple((node[0], BOOL, ()) + node[1:] for node in knot) + tuple(more)
    made = ("flow", INPUTS, nodes, tuple((f"o{at}", at) for at in range(MANY, len(nodes))), (), ())
    assert is_flow(made)
    return made


NO, YES, X, Y, Z = 10, 11, 12, 13, 14


def nots(many, at=X):
    """A ring of so many nots, from the node number at on."""
    return [("not", at + (k + 1) % many) for k in range(many)]


class Knots(unittest.TestCase):
    def one(self, made, enters, told):
        knot, = knots_of(made)
        self.assertEqual(entering(made, knot), enters)
        self.assertEqual(settles(made, knot), told)
        self.assertIs(judge_knots(made), told == ())

    def test_knots_that_settle(self):
        self.one(flow(("pick", 0, 1, Y), ("pick", 0, X, 2)), (0, 1, 2), ())
        self.one(flow(("and", X, NO)), (), ())
        self.one(flow(("pick", X, YES, YES)), (), ())
        self.one(flow(("pick", X, 3, 3)), (3,), ())
        self.one(flow(("and", Y, NO), ("xor", X, 4), ("or", Y, X)), (4,), ())
        self.one(flow(("pick", 1, 0, Z), ("not", X), ("pick", 1, Y, 0)), (0, 1), ())

    def test_knots_that_do_not_settle(self):
        self.one(flow(("not", X)), (), ((),))
        self.one(flow(("and", X, YES)), (), ((),))
        self.one(flow(("or", X, 3)), (3,), ((0,),))
        self.one(flow(("and", X, 3)), (3,), ((1,),))
        self.one(flow(("pick", X, 1, 0)), (0, 1), ((0, 1),))
        self.one(flow(("pick", 5, 4, X)), (4, 5), ((0, 0),))
        self.one(flow(("pick", 4, X, 5)), (4, 5), ((1, 0),))
        self.one(flow(("pick", 0, 1, Y), ("pick", 2, X, 1)), (0, 1, 2), ((0, 0, 1),))
        self.one(flow(("xor", X, X)), (), ((),))
        self.one(flow(("pick", X, X, NO)), (), ((),))
        self.one(flow(*nots(5)), (), ((),))

    def test_least_truths(self):
        # Ascending by the numbers of the entering nodes, not by their places.
        self.one(flow(("pick", 7, 3, Y), ("and", 3, X)), (3, 7), ((1, 0),))
        self.one(flow(("pick", 2, 3, Y), ("and", 3, X)), (2, 3), ((0, 1),))

    def test_several_knots(self):
        made = flow(("or", X, 3), ("and", Y, NO), ("not", Z))
        told = [settles(made, knot) for knot in knots_of(made)]
        self.assertEqual(told, [((0,),), (), ((),)])
        self.assertIs(judge_knots(made), False)
        self.assertIs(judge_knots(flow(("and", X, NO), ("and", Y, NO))), True)
        self.assertIs(judge_knots(flow(("and", X, NO), ("and", Y, YES))), False)

    def test_words_and_kinds(self):
        num = ("num", 0, 3, 1, "wrap")
        more = (("const", num, (), 1), ("pick", num, (), 0, X, Y), ("pick", num, (), 1, X, X))
        self.assertIs(judge_knots(flow(more=more)), False)
        more = (("const", num, (), 1), ("pick", num, (), 0, X, Z), ("pick", num, (), 0, Y, X))
        self.assertEqual(len(knots_of(flow(more=more))), 1)
        self.assertIs(judge_knots(flow(more=more)), False)
        self.assertIs(judge_knots(flow(("eq", X, 1))), False)
        self.assertIs(judge_knots(flow(("ne", X, X))), False)
        self.assertIs(judge_knots(flow(("and", Y, NO), ("vote", X, NO, NO))), False)
        delayed = (("delay", BOOL, (), 0, X, (Y,)), ("pick", BOOL, (), 0, X, NO))
        self.assertIs(judge_knots(flow(more=delayed)), False)
        sampled = (("pick", BOOL, (), 0, Y, NO), ("merge", BOOL, (), X, (Z, Z + 1)),
                   ("const", BOOL, ((X, 0),), 0), ("const", BOOL, ((X, 1),), 0))
        self.assertIs(judge_knots(flow(more=sampled)), False)

    def test_straight_flows(self):
        for seed in range(10):
            self.assertIs(judge_knots(random_flow(seed, 30)), True)

    def test_bounds(self):
        def guarded(ring):
            # The first node of the ring is 0 whatever the others are.
            return [("and", NO, ring[0][1])] + ring[1:]
        self.assertIs(judge_knots(flow(*guarded(nots(12)))), True)
        self.assertIs(judge_knots(flow(*guarded(nots(13)))), False)

        def entered(many):
            return [("and", NO, X + many)] + [("or", at, X + at) for at in range(many)]
        eight, nine = flow(*entered(8)), flow(*entered(9))
        self.assertEqual(entering(eight, knots_of(eight)[0]), tuple(range(8)))
        self.assertEqual(settles(eight, knots_of(eight)[0]), ())
        self.assertIs(judge_knots(eight), True)
        self.assertIs(judge_knots(nine), False)
        # A const that enters does not count, nor does a node that enters twice.
        consts = entered(8) + [("or", YES, X + 8), ("pick", 3, X + 9, 4)]
        consts[0] = ("and", NO, X + 10)
        self.assertIs(judge_knots(flow(*consts)), True)

    def test_flows_that_are_not_right(self):
        made = flow(("and", X, NO))
        self.assertIs(judge_knots(made[:2] + (made[2] + (("not", BOOL, (), 99),),) + made[3:]), False)

    def test_random_ones(self):
        let = knots = 0
        for seed in range(250):
            made = knot_flow(seed, 15 + seed % 20, 1 + seed % 3)
            self.assertTrue(judged(made))
            self.assertEqual(knots_of(made), slow_knots(made))
            self.assertIs(judge_knots(made), slow_let(made))
            let += slow_let(made)
            for knot in knots_of(made):
                nodes = [made[2][at] for at in knot]
                if all(node[0] in ("not", "and", "or", "xor", "pick") for node in nodes):
                    knots += 1
                    self.assertEqual(entering(made, knot), slow_entering(made, knot))
                    self.assertEqual(settles(made, knot), slow_settles(made, knot))
        self.assertGreater(let, 60)
        self.assertGreater(knots, 250)


class Runs(unittest.TestCase):
    def test_by_hand(self):
        made = flow(("pick", 0, 1, Y), ("pick", 0, X, 2), more=(
            ("delay", BOOL, (), 1, X, (Y,)), ("when", BOOL, ((Y, 1),), X)))
        run = KnotRun(made)
        shown = []
        for a, b, c in ((0, 0, 0), (1, 1, 0), (0, 0, 1), (1, 0, 1), (0, 0, 0)):
            shown.append(run.tick((a, b, c) + (0,) * 7)[2:])
        self.assertEqual(shown, [(0, 0, 1, None), (1, 1, 1, 1), (1, 1, 1, 1), (0, 0, 1, None),
                                 (0, 0, 0, None)])

    def test_sampled_clocks(self):
        clock = ((0, 1),)
        more = (("when", BOOL, clock, 1), ("when", BOOL, clock, 2), ("pick", BOOL, clock, X, Y, Z + 1),
                ("pick", BOOL, clock, X, Z, Y))
        made = flow(more=more)
        self.assertIs(judge_knots(made), True)
        run = KnotRun(made)
        rows = [row + (0,) * 7 for row in ((1, 1, 0), (0, 1, 1), (1, 0, 1))]
        self.assertEqual([run.tick(row)[2:] for row in rows],
                         [(1, 0, 0, 0), (None,) * 4, (0, 1, 1, 1)])

    def test_random_flows(self):
        many = 0
        for seed in range(220):
            made = knot_flow(seed, 15 + seed % 20, 1 + seed % 3)
            if not slow_let(made):
                continue
            many += 1
            rows = random_rows(seed, 9)
            oracle = KnotOracle(made, rows)
            run = KnotRun(made)
            shown = [node for part in made[3:] for _, node in part]
            for tick, row in enumerate(rows):
                self.assertEqual(run.state, oracle.state(tick))
                entries = oracle.entries(tick)
                self.assertEqual(run.tick(row), tuple(entries[node] for node in shown))
        self.assertGreater(many, 50)

    def test_straight_flows(self):
        for seed in range(10):
            made = random_flow(seed, 30)
            rows = random_rows(seed, 12)
            self.assertEqual(list(KnotRun(made).ticks(rows)), list(FlowRun(made).ticks(rows)))

    def test_state(self):
        for seed in range(40):
            made = knot_flow(seed, 25, 2)
            if slow_let(made):
                rows = random_rows(seed, 12)
                check_ticks(self, lambda: KnotRun(made), rows)
                check_state(self, lambda: KnotRun(made), rows)
                self.assertFalse(hasattr(KnotRun(made), "entries"))


class Opening(unittest.TestCase):
    def opens(self, made, rows):
        got = opened(made)
        self.assertTrue(judged(got))
        self.assertTrue(is_flow(got) and is_straight(got))
        self.assertEqual(got[1], made[1])
        for part, other in zip(got[3:], made[3:]):
            self.assertEqual([name for name, _ in part], [name for name, _ in other])
        self.assertEqual(list(FlowRun(got).ticks(rows)), list(KnotRun(made).ticks(rows)))
        return got

    def all_rows(self, many):
        return [tuple((k >> at) & 1 for at in range(many)) + (0,) * (MANY - many)
                for k in range(2 ** many)]

    def test_by_hand(self):
        rows = self.all_rows(4)
        self.opens(flow(("pick", 0, 1, Y), ("pick", 0, X, 2)), rows)
        self.opens(flow(("and", X, NO)), rows)
        self.opens(flow(("pick", X, YES, YES)), rows)
        self.opens(flow(("pick", 1, 0, Z), ("not", X), ("pick", 1, Y, 0)), rows)
        self.opens(flow(("and", 0, X + 1), *nots(12)[1:11], ("pick", 0, NO, X)), rows)

    def test_long_ways(self):
        # What enters goes all the way round, one node in each round of settling.
        back = [("pick", 0, X + at + 1, 2) for at in range(11)] + [("pick", 0, 1, X)]
        there = [("pick", 0, 2, X + 11)] + [("pick", 0, X + at, 1) for at in range(11)]
        chains = [("and", NO, X + 11)] + [("not", X + at) for at in range(11)]
        for knot in (back, there, chains):
            made = flow(*knot)
            self.assertEqual(len(knots_of(made)[0]), 12)
            self.assertIs(judge_knots(made), True)
            self.opens(made, self.all_rows(3))

    def test_straight_flows_and_state(self):
        for seed in range(5):
            made = random_flow(seed, 25)
            self.opens(made, random_rows(seed, 6))

    def test_random_flows(self):
        many = 0
        for seed in range(300, 520):
            made = knot_flow(seed, 15 + seed % 20, 1 + seed % 3)
            if slow_let(made):
                many += 1
                self.opens(made, random_rows(seed, 20))
        self.assertGreater(many, 50)

    def chains(self, knots, more, size=12):
        """So many knots of a size each, and so many nodes more."""
        nodes = []
        for at in range(knots):
            first = X + len(nodes)
            nodes.append(("and", 0, first + size - 1))
            nodes.extend([("and" if k % 2 else "or", first + k - 1, first + k - 1)
                          for k in range(1, size - 1)])
            nodes.append(("pick", 0, 1, first + size - 2))
        made = flow(*nodes, *[("not", 0)] * more)
        self.assertIs(judge_knots(made), True)
        return made

    def test_bound(self):
        for knots, size in ((1, 12), (7, 4), (30, 2)):
            bound = knots * (12 * size * size + 12)
            more = 2000 - bound - knots * size - 12
            made = self.chains(knots, more, size)
            self.assertEqual(bound + len(made[2]), 2000)
            self.assertLessEqual(len(self.opens(made, self.all_rows(2))[2]), 2000)

    def test_too_large(self):
        # 165 knots of 12 nodes: there is no place for anything more.
        made = self.chains(165, 8)
        self.assertEqual(len(made[2]), 2000)
        with self.assertRaises(TooLarge) as caught:
            opened(made)
        self.assertEqual(caught.exception.part, "flow")
        # More than 2000 nodes are too many, 2000 are not.
        more = 1
        while len(opened(self.chains(1, more))[2]) < 2000:
            more += 2000 - len(opened(self.chains(1, more))[2])
        self.opens(self.chains(1, more), self.all_rows(2))
        with self.assertRaises(TooLarge):
            opened(self.chains(1, more + 1))
        self.assertEqual(opened(flow(*[("not", 0)] * 1988))[2][-1], ("not", BOOL, (), 0))


if __name__ == "__main__":
    unittest.main()
