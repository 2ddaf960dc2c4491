"""Sayings: [50]."""

import itertools
import random
import unittest

from keepsgoing.deciding import decided
from keepsgoing.errors import TooMany
from keepsgoing.family import family
from keepsgoing.flows import is_flow
from keepsgoing.sayings import judge_sayings
from tests.smallflows import Looked, all_rows, every_state, reached, small_flow

BOOL = ("bool",)
NUM = ("num", 0, 5, 1, "wrap")
MODE = ("mode", ("a", "b", "c"))
ROW = ("row", BOOL, 2)


def flow(inputs, *nodes, assumes=(), keeps=()):
    shown = [tuple((f"{word}{at}", node) for at, node in enumerate(each)) for word, each in
             (("p", assumes), ("q", keeps))]
    made = ("flow", inputs, nodes, (("o", len(nodes) - 1),), shown[0], shown[1])
    assert is_flow(made)
    return made


def slow_true(saying, state):
    word, *rest = saying
    if word == "least":
        return state[rest[0]] >= rest[1]
    if word == "most":
        return state[rest[0]] <= rest[1]
    if word == "never":
        return state[rest[0]] != rest[1]
    if word == "same":
        return state[rest[0]] == state[rest[1]]
    if word == "if":
        return state[rest[2]] == rest[3] if state[rest[0]] == rest[1] else True
    return state in rest[0]


def slow_judge(flow, depth, paper):
    """By the words, for papers of the right form."""
    looked = Looked(flow)
    good = lambda state: all(slow_true(saying, state) for saying in paper)

    def runs(state, many):
        """All runs by so many rows that are let: what their ticks break, and their states."""
        for rows in itertools.product(all_rows(flow), repeat=many):
            at, breaks, states = state, [], []
            for row in rows:
                is_let, broken, _, after = looked.tick(at, row)
                if not is_let:
                    break
                at = after
                breaks.append(broken)
                states.append(after)
            else:
                yield breaks, states
    if not good(looked.start):
        return False
    for many in range(1, depth):
        for breaks, states in runs(looked.start, many):
            if any(breaks) or not all(good(state) for state in states):
                return False
    for state in every_state(flow):
        if good(state):
            for breaks, states in runs(state, depth):
                if not any(breaks[:-1]) and all(good(each) for each in states[:-1]):
                    if breaks[-1] or not good(states[-1]):
                        return False
    return True


class Words(unittest.TestCase):
    """Two delays that keep what they have, and a beat; so each true saying goes on to be true."""

    def kept(self, first, second, kind=NUM):
        return flow((), ("delay", kind, (), first, 0, ()), ("delay", kind, (), second, 1, ()), ("beat", BOOL, (), 1, 0))

    def check(self, made, wanted, *papers):
        for paper in papers:
            for depth in (1, 2, 3):
                self.assertIs(judge_sayings(made, depth, paper), wanted, paper)

    def test_least_and_most(self):
        made = self.kept(2, 4)
        self.check(made, True, (), (("least", 0, 2),), (("least", 0, -1000000),), (("most", 1, 4),), (("least", 2, 0),),
                   (("most", 0, 1000000),), (("least", 0, 1), ("most", 0, 2), ("most", 2, 0)))
        self.check(made, False, (("least", 0, 3),), (("most", 1, 3),), (("least", 2, 1),), (("most", 2, -1),),
                   (("least", 0, 2), ("most", 1, 3)))

    def test_never(self):
        made = self.kept(2, 4)
        self.check(made, True, (("never", 0, 4),), (("never", 1, 2), ("never", 2, 1)), (("never", 0, 1000000),))
        self.check(made, False, (("never", 0, 2),), (("never", 2, 0),))
        self.check(self.kept(1, 2, MODE), True, (("never", 0, 0), ("never", 1, 1), ("never", 0, 3)))
        self.check(self.kept(1, 2, MODE), False, (("never", 0, 1),))

    def test_same(self):
        self.check(self.kept(3, 3), True, (("same", 0, 1),))
        self.check(self.kept(3, 4), False, (("same", 0, 1),))
        # Contents of unlike kinds are compared, too, also with counts.
        self.check(self.kept(0, 1), True, (("same", 0, 2),))
        self.check(self.kept(0, 1), False, (("same", 1, 2),))
        self.check(self.kept(0, 0), False, (("same", 1, 0),), (("same", 0, 0),), (("same", 2, 0),), (("same", 0, 3),))

    def test_if(self):
        made = self.kept(2, 4)
        self.check(made, True, (("if", 0, 2, 1, 4),), (("if", 0, 3, 1, 0),), (("if", 1, 4, 0, 2),), (("if", 2, 0, 0, 2),),
                   (("if", 0, 1000000, 1, 1000000),), (("if", 0, 2, 2, 0),))
        self.check(made, False, (("if", 0, 2, 1, 3),), (("if", 2, 0, 1, 2),))
        # With equal m and n.
        self.check(made, True, (("if", 0, 2, 0, 2),), (("if", 0, 3, 0, 5),))
        self.check(made, False, (("if", 0, 2, 0, 3),))

    def test_among(self):
        made = self.kept(2, 4)
        self.check(made, True, (("among", ((2, 4, 0),)),), (("among", ((2, 4, 0), (0, 0, 0), (2, 4, 0), (1, 5, 0))),))
        self.check(made, False, (("among", ()),), (("among", ((4, 2, 0),)),))

    def test_cells(self):
        made = flow((), ("delay", ROW, (), (0, 1), 0, ()), ("delay", NUM, (), 3, 1, ()))
        self.check(made, True, (("least", 1, 3),), (("if", 1, 3, 1, 3),), (("among", (((0, 1), 3),)),))
        for cell in (0, 2, -1, -2, 1000000, -1000000):
            self.check(made, False, (("least", cell, -5),), (("most", cell, 9),), (("never", cell, 9),),
                       (("same", cell, 1),), (("same", 1, cell),), (("if", cell, 9, 1, 3),), (("if", 1, 9, cell, 3),))
        # A saying that is always true does not help a wrong one.
        self.check(made, False, (("least", 1, 3), ("least", 0, 0)))

    def test_states_of_a_wrong_form(self):
        made = flow((), ("delay", ROW, (), (0, 1), 0, ()), ("beat", BOOL, (), 3, 1))
        whole = tuple(((0, 1), count) for count in range(3))
        self.check(made, True, (("among", whole),), (("among", whole[::-1] + whole),))
        for state in ((), ((0, 1),), ((0, 1), 0, 0), ((0, 1), 3), ((0, 1), -1), ((0,), 0), ((0, 1, 1), 0), ((0, 2), 0),
                      ((), 0), ((0, 1), None), (0, (0, 1)), ((0, None), 0), ((0, 1), 1000000), (0, 0)):
            self.check(made, False, (("among", whole + (state,)),))

    def test_wrong_words(self):
        made = self.kept(2, 4)
        for saying in (("", 0, 2), ("leasts", 0, 2), (None, 0, 2), ("among", 0, 2), ("if", 0, 2), ("least", 0, 2, 1, 4),
                       ("same", 0, 1, 1, 1), ("if", 0), ("least",), (), ("least", 0, None), ("most", 0, ""),
                       ("if", 0, None, 1, 4), ("if", 0, 2, 1, None), ("if", 0, 3, 1, None), ("same", None, 1), ("among", None)):
            self.check(made, False, (saying,), (("least", 0, 2), saying))


def chain(many):
    """A delay behind the other, from a bool that stays 1; the keep is the last one; cells in this order."""
    nodes = [("delay", BOOL, (), 1, 0, ())] + [("delay", BOOL, (), 1, at, ()) for at in range(many - 1)]
    return flow((), *nodes, keeps=(many - 1,))


class Depths(unittest.TestCase):
    def test_depths_that_are_enough(self):
        """The keep follows from the states two ticks ago, so a paper without a word about the rest needs depth 3."""
        made = chain(3)
        self.assertEqual([judge_sayings(made, depth, (("never", 0, 0),)) for depth in (1, 2, 3)], [False, False, True])
        made = chain(2)
        self.assertEqual([judge_sayings(made, depth, (("never", 0, 0),)) for depth in (1, 2, 3)], [False, True, True])
        self.assertEqual([judge_sayings(made, depth, ()) for depth in (1, 2, 3)], [False, False, True])
        self.assertEqual([judge_sayings(chain(3), depth, ()) for depth in (1, 2, 3)], [False] * 3)
        every = tuple(("never", cell, 0) for cell in range(2))
        self.assertEqual([judge_sayings(made, depth, every) for depth in (1, 2, 3)], [True] * 3)

    def test_failing_at_the_beginning_alone(self):
        """From all good states all goes well, but the beginning is none, or does not go well for so long."""
        made = flow((), ("delay", NUM, (), 5, 1, ()), ("const", NUM, (), 0))
        self.assertEqual([judge_sayings(made, depth, (("most", 0, 3),)) for depth in (1, 2, 3)], [False] * 3)
        # The first two contents are good, what comes third is not; no good state but these leads there.
        made = flow((), ("delay", NUM, (), 0, 2, ()), ("const", NUM, (), 1), ("add", NUM, (), 0, 1))
        paper = (("most", 0, 1),)
        self.assertEqual([judge_sayings(made, depth, paper) for depth in (1, 2, 3)], [False] * 3)
        self.assertEqual([slow_judge(made, depth, paper) for depth in (1, 2, 3)], [False] * 3)

    def test_a_tick_that_breaks_at_the_beginning(self):
        made = flow((), ("delay", BOOL, (), 0, 1, ()), ("const", BOOL, (), 1), keeps=(0,))
        # The beginning is good, the tick from it breaks: seen by the step at depth 1, by both at others.
        for depth in (1, 2, 3):
            self.assertIs(judge_sayings(made, depth, ()), False)
            self.assertIs(judge_sayings(made, depth, (("never", 0, 0),)), False)
        made = made[:5] + ((),)
        for depth in (1, 2, 3):
            self.assertIs(judge_sayings(made, depth, ()), True)

    def test_failing_in_the_step_alone(self):
        """The beginning stays as it is; but a good state that is never reached leads to one that is not good."""
        nodes = (("delay", NUM, (), 0, 3, ()), ("const", NUM, (), 0), ("eq", BOOL, (), 0, 1),
                 ("pick", NUM, (), 2, 0, 5), ("const", NUM, (), 1), ("add", NUM, (), 0, 4))
        made = flow((), *nodes[:5], ("pick", NUM, (), 2, 1, 4))
        self.assertEqual([judge_sayings(made, depth, (("most", 0, 4),)) for depth in (1, 2, 3)], [True] * 3)
        counting = flow((), ("delay", NUM, (), 0, 3, ()), *nodes[1:3], ("pick", NUM, (), 2, 0, 5), *nodes[4:])
        self.assertEqual([judge_sayings(counting, depth, (("most", 0, 4),)) for depth in (1, 2, 3)], [False] * 3)
        self.assertEqual([judge_sayings(counting, depth, (("most", 0, 0),)) for depth in (1, 2, 3)], [True] * 3)
        # From 2 no good state can be two ticks behind another one, but for 0.
        self.assertEqual([judge_sayings(counting, depth, (("most", 0, 2),)) for depth in (1, 2, 3)], [False, False, True])

    def test_good_states_that_lead_on_for_a_while(self):
        """From 3 the good states 3, 4 last two ticks, then 5 is reached: only depth 3 sees that this cannot be."""
        nodes = (("delay", NUM, (), 0, 3, ()), ("const", NUM, (), 0), ("eq", BOOL, (), 0, 1), ("pick", NUM, (), 2, 0, 5),
                 ("const", NUM, (), 1), ("add", NUM, (), 0, 4))
        made = flow((), *nodes)
        for low, wanted in ((4, [False, True, True]), (3, [False, False, True]), (2, [False, False, False])):
            paper = (("if", 0, 5, 0, 0),) + tuple(("never", 0, value) for value in range(1, low))
            self.assertEqual([judge_sayings(made, depth, paper) for depth in (1, 2, 3)], wanted)

    def test_rows_that_are_not_let(self):
        nodes = (("input", BOOL, (), 0), ("delay", BOOL, (), 1, 0, ()), ("and", BOOL, (), 0, 1))
        made = flow((("x", BOOL, 0),), *nodes, assumes=(0,), keeps=(1,))
        self.assertEqual([judge_sayings(made, depth, (("never", 0, 0),)) for depth in (1, 2, 3)], [True] * 3)
        self.assertEqual([judge_sayings(made, depth, ()) for depth in (1, 2, 3)], [False, True, True])
        made = flow((("x", BOOL, 0),), *nodes, keeps=(1,))
        self.assertEqual([judge_sayings(made, depth, (("never", 0, 0),)) for depth in (1, 2, 3)], [False] * 3)


class Errors(unittest.TestCase):
    def check(self, made, part):
        for paper in ((), (("no",),), (("among", ()),)):
            with self.assertRaises(TooMany) as caught:
                judge_sayings(made, 1, paper)
            self.assertEqual(caught.exception.part, part)

    def test_too_many(self):
        big = [("delay", BOOL, (), 0, 0, ())] * 8
        five = tuple((f"i{at}", BOOL, 0) for at in range(5))
        self.assertIs(judge_sayings(flow((), *big), 1, ()), True)
        self.assertIs(judge_sayings(flow(five[:4], *big), 1, ()), True)
        self.check(flow((), *big, ("beat", BOOL, (), 2, 0)), "states")
        self.check(flow(five, *big), "rows")
        self.check(flow(five, *big, ("delay", BOOL, (), 0, 0, ())), "rows")
        self.check(flow((), ("delay", ("num", 0, 256, 1, "wrap"), (), 0, 0, ())), "states")
        self.assertIs(judge_sayings(flow((), ("delay", ("num", 0, 255, 1, "wrap"), (), 0, 0, ())), 1, ()), True)
        self.check(flow((), ("delay", ("num", -1000, 1000, 1, "wrap"), (), 0, 0, ())), "states")
        self.check(flow((), ("delay", ("row", ("num", 0, 16, 1, "wrap"), 2), (), (0, 0), 0, ())), "states")
        self.assertIs(judge_sayings(flow((), ("delay", ("row", ("num", 0, 15, 1, "wrap"), 2), (), (0, 0), 0, ())), 1,
                                    ()), True)


class Judge(unittest.TestCase):
    def papers(self, rng, made):
        kept = family(made)
        states = every_state(made)
        cells = len(states[0])
        plain = [cell for cell in range(cells) if isinstance(states[0][cell], int)]
        whole = sorted(set().union(*reached(made)))
        for _ in range(14):
            paper = rng.sample(kept, min(len(kept), rng.choice([0, 1, 2, 4])))
            if plain and rng.random() < 0.6:
                some = [rng.choice(plain), rng.randrange(-1, 4), rng.choice(plain), rng.randrange(-1, 4)]
                paper.append(rng.choice([("least", *some[:2]), ("most", *some[:2]), ("never", *some[:2]), ("if", *some)]))
            if rng.random() < 0.3:
                paper.append(("among", tuple(state for state in states if rng.random() < 0.7 or state in whole)))
            # Mostly such that are true at the beginning and in all states that are reached.
            if rng.random() < 0.7:
                paper = [saying for saying in paper if all(slow_true(saying, state) for state in whole)]
            yield tuple(paper)

    def test_random_papers(self):
        rng = random.Random(50)
        counts = {}
        for seed in range(160):
            made = small_flow(seed, 24)
            if len(every_state(made)) < 2:
                continue
            for paper in self.papers(rng, made):
                wanted = tuple(slow_judge(made, depth, paper) for depth in (1, 2, 3))
                got = tuple(judge_sayings(made, depth, paper) for depth in (1, 2, 3))
                self.assertEqual(got, wanted, (seed, paper))
                counts[wanted] = counts.get(wanted, 0) + 1
                if True in wanted:
                    told = decided(made, 1000)
                    self.assertEqual(told[0], "kept")
                    self.assertTrue(all(slow_true(saying, state) for saying in paper for state in told[1]))
        for each in ((False,) * 3, (True,) * 3, (False, True, True), (False, False, True)):
            self.assertGreater(counts[each], 5, counts)

    def test_all_reached_states(self):
        """If the contract is kept, one saying is enough at depth 1; if it is not, none is."""
        kept = broken = 0
        for seed in range(300):
            made = small_flow(seed, 64)
            told = decided(made, 1000)
            whole = tuple(sorted(set().union(*reached(made))))
            self.assertIs(judge_sayings(made, 1, (("among", whole),)), told[0] == "kept")
            kept += told[0] == "kept"
            broken += told[0] == "broken"
            for state in whole:
                fewer = tuple(each for each in whole if each != state)
                self.assertIs(judge_sayings(made, 1, (("among", fewer),)), False)
        self.assertTrue(kept > 80 and broken > 30)


if __name__ == "__main__":
    unittest.main()
