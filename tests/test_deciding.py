"""Contracts: [48], [49]."""

import random
import unittest

from keepsgoing.deciding import decided, judge_closed, rows_of
from keepsgoing.errors import TooMany
from keepsgoing.flows import is_flow
from tests.smallflows import Looked, all_rows, every_state, first_breaking, reached, small_flow

BOOL = ("bool",)
NUM = ("num", 0, 5, 1, "wrap")
MODE = ("mode", ("a", "b", "c"))


def flow(inputs, *nodes, assumes=(), keeps=()):
    shown = [tuple((f"{word}{at}", node) for at, node in enumerate(each)) for word, each in
             (("p", assumes), ("q", keeps))]
    made = ("flow", inputs, nodes, (("o", len(nodes) - 1),), shown[0], shown[1])
    assert is_flow(made)
    return made


def given(*inputs):
    """A flow with these inputs and a const."""
    return flow(tuple((f"i{at}",) + each for at, each in enumerate(inputs)), ("const", BOOL, (), 1))


def counter(top, assumes=False):
    """A counter from 0 on, which is put on by a bool; the keep says that it is not top, an assume that x is 1."""
    nodes = (("input", BOOL, (), 0), ("const", NUM, (), 1), ("delay", NUM, (), 0, 5, ()), ("add", NUM, (), 2, 1),
             ("const", NUM, (), top), ("pick", NUM, (), 0, 3, 2), ("ne", BOOL, (), 2, 4))
    return flow((("x", BOOL, 0),), *nodes, assumes=(0,) if assumes else (), keeps=(6,))


class Rows(unittest.TestCase):
    def test_order(self):
        self.assertEqual(rows_of(given()), ((),))
        self.assertEqual(rows_of(given((BOOL, 0))), ((0,), (1,)))
        self.assertEqual(rows_of(given((BOOL, 1))), ((None,), (0,), (1,)))
        self.assertEqual(rows_of(given((("num", -1, 1, 3, "hold"), 0))), ((-1,), (0,), (1,)))
        self.assertEqual(rows_of(given((BOOL, 1), (BOOL, 0))),
                         ((None, 0), (None, 1), (0, 0), (0, 1), (1, 0), (1, 1)))
        self.assertEqual(rows_of(given((("row", BOOL, 2), 1))), ((None,), ((0, 0),), ((0, 1),), ((1, 0),), ((1, 1),)))
        # A loose input is given a value at every tick.
        self.assertEqual(rows_of(given((BOOL, 2), (MODE, 2))), tuple((a, b) for a in (0, 1) for b in (0, 1, 2)))

    def test_sixteen(self):
        self.assertEqual(len(rows_of(given((("row", BOOL, 4), 0)))), 16)
        self.assertEqual(len(rows_of(given((("num", 1, 15, 1, "wrap"), 1)))), 16)
        self.assertEqual(len(rows_of(given(*[(BOOL, 0)] * 4))), 16)
        for inputs in (((("num", 1, 16, 1, "wrap"), 1),), ((("num", 0, 16, 1, "wrap"), 0),), ((BOOL, 0),) * 5,
                       ((BOOL, 1), (("num", 1, 6, 1, "wrap"), 0)), ((("row", ("num", -1000, 1000, 1, "wrap"), 6), 0),),
                       ((BOOL, 2),) * 5):
            for call in (rows_of, lambda made: decided(made, 100), lambda made: judge_closed(made, ())):
                with self.assertRaises(TooMany) as caught:
                    call(given(*inputs))
                self.assertEqual(caught.exception.part, "rows")

    def test_rows_ahead_of_states(self):
        with self.assertRaises(TooMany) as caught:
            decided(given(*[(BOOL, 0)] * 5), 0)
        self.assertEqual(caught.exception.part, "rows")

    def test_random_flows(self):
        for seed in range(60):
            made = small_flow(seed)
            self.assertEqual(list(rows_of(made)), all_rows(made))


class Decided(unittest.TestCase):
    def test_by_hand(self):
        self.assertEqual(decided(counter(3), 6), ("broken", ((1,), (1,), (1,), (0,))))
        self.assertEqual(decided(counter(0), 1), ("broken", ((0,),)))
        # With the assume no row with 0 is let.
        self.assertEqual(decided(counter(3, True), 6), ("broken", ((1,),) * 4))
        kept = counter(3)[:5] + ((),)
        self.assertEqual(decided(kept, 6), ("kept", tuple((n,) for n in range(6))))
        self.assertEqual(decided(given((BOOL, 0)), 1), ("kept", ((),)))

    def test_no_row_is_let(self):
        made = flow((("x", BOOL, 0),), ("const", BOOL, (), 0), assumes=(0,), keeps=(0,))
        self.assertEqual(decided(made, 1), ("kept", ((),)))

    def test_contents_that_are_rows(self):
        row = ("row", BOOL, 2)
        made = flow((("x", row, 0),), ("input", row, (), 0), ("delay", row, (), (0, 1), 0, ()))
        self.assertEqual(decided(made, 4), ("kept", (((0, 0),), ((0, 1),), ((1, 0),), ((1, 1),))))

    def test_what_is_not_there_breaks_nothing(self):
        """An assume that is not there lets every row, and a keep that is not there is not broken."""
        nodes = (("here", BOOL, (), 0), ("input", BOOL, ((0, 1),), 0), ("not", BOOL, ((0, 1),), 1))
        made = flow((("x", BOOL, 1),), *nodes, assumes=(1,), keeps=(1,))
        self.assertEqual(decided(made, 1), ("kept", ((),)))
        made = flow((("x", BOOL, 1),), *nodes, keeps=(1,))
        self.assertEqual(decided(made, 1), ("broken", ((0,),)))
        made = flow((("x", BOOL, 1),), *nodes, assumes=(1,), keeps=(2,))
        self.assertEqual(decided(made, 1), ("broken", ((1,),)))

    def test_the_breaking_row_must_be_let(self):
        made = flow((("x", BOOL, 0),), ("input", BOOL, (), 0), ("const", BOOL, (), 1), assumes=(0, 1), keeps=(0, 0))
        self.assertEqual(decided(made, 1), ("kept", ((),)))

    def test_just_enough_states(self):
        # The states 0, 1, 2, 3 are reached in fewer ticks than the four of the shortest breaking run.
        self.assertEqual(decided(counter(3), 4)[0], "broken")
        for most in (3, 1, 0):
            with self.assertRaises(TooMany) as caught:
                decided(counter(3), most)
            self.assertEqual(caught.exception.part, "states")
        kept = counter(3)[:5] + ((),)
        self.assertEqual(len(decided(kept, 6)[1]), 6)
        with self.assertRaises(TooMany):
            decided(kept, 5)
        with self.assertRaises(TooMany):
            decided(counter(0), 0)

    def test_states_of_the_last_level_do_not_count(self):
        """The shortest breaking run has two ticks: what three rows of the first tick lead to counts, no more."""
        nodes = (("input", NUM, (), 0), ("delay", NUM, (), 0, 0, ()), ("delay", NUM, (), 0, 1, ()),
                 ("const", NUM, (), 0), ("eq", BOOL, (), 1, 3))
        made = flow((("x", NUM, 0),), *nodes, keeps=(4,))
        self.assertEqual(decided(made, 6), ("broken", ((1,), (0,))))
        with self.assertRaises(TooMany):
            decided(made, 5)

    def test_random_flows(self):
        broken = kept = long = 0
        for seed in range(900):
            made = small_flow(seed)
            levels = reached(made)
            looked = Looked(made)
            at = next((k for k, level in enumerate(levels) for s in level for r in all_rows(made)
                       if looked.tick(s, r)[0] and looked.tick(s, r)[1]), None)
            if at is None:
                kept += 1
                enough = len(set().union(*levels))
                wanted = ("kept", tuple(sorted(set().union(*levels))))
            else:
                broken += 1
                enough = len(set().union(*levels[:at + 1]))
                wanted = None
                if len(all_rows(made)) ** (at + 1) < 6000:
                    long += at > 1
                    wanted = ("broken", first_breaking(made, at + 1))
                self.assertEqual(len(decided(made, enough)[1]), at + 1)
            got = decided(made, enough)
            self.assertEqual(got, wanted if wanted is not None else got)
            self.assertEqual(decided(made, 100000), got)
            for most in (enough - 1, 0):
                with self.assertRaises(TooMany) as caught:
                    decided(made, most)
                self.assertEqual(caught.exception.part, "states")
            if at is None:
                self.assertIs(judge_closed(made, got[1]), True)
        self.assertTrue(broken > 100 and kept > 100 and long > 15, (broken, kept, long))

    def test_many_states(self):
        """Three counters of 12, 11 and 10 that go on together, and on their own."""
        nodes = [("const", BOOL, (), 1)]
        for n in (12, 11, 10):
            nodes.append(("beat", BOOL, (), n, n - 1))
        nodes += [("and", BOOL, (), 1, 2), ("and", BOOL, (), 4, 3), ("not", BOOL, (), 5)]
        made = flow((), *nodes, keeps=(6,))
        self.assertEqual(decided(made, 660), ("broken", ((),) * 660))
        with self.assertRaises(TooMany):
            decided(made, 659)


class Closed(unittest.TestCase):
    def test_by_hand(self):
        made = counter(5, True)
        self.assertEqual(decided(made, 9)[0], "broken")
        for states in ((), ((0,),), tuple((n,) for n in range(6))):
            self.assertIs(judge_closed(made, states), False)
        made = counter(5)[:5] + ((),)
        whole = tuple((n,) for n in range(6))
        self.assertIs(judge_closed(made, whole), True)
        for states in (
                (), whole[1:], whole[:5], whole[:2] + whole[3:], whole[::-1], whole + whole[5:], whole[:1] + whole,
                whole[:2] + (whole[3], whole[2]) + whole[4:], whole + ((6,),), ((-1,),) + whole, ((),) + whole,
                ((0, 0),) + whole[1:], whole[:5] + ((5, 0),), whole[:5] + ((),), ((None,),) + whole,
                whole[:5] + (("5",),), whole[:5] + (((5,),),), whole + ((1000000,),)):
            self.assertIs(judge_closed(made, states), False, states)

    def test_larger_sets(self):
        """A closed set can have states that are not reached, as long as nothing leads out of it."""
        nodes = (("delay", NUM, (), 0, 0, ()), ("delay", BOOL, (), 1, 1, ()))
        made = flow((), *nodes, keeps=(1,))
        self.assertIs(judge_closed(made, ((0, 1),)), True)
        self.assertIs(judge_closed(made, ((0, 1), (3, 1), (5, 1))), True)
        self.assertIs(judge_closed(made, ((0, 0), (0, 1))), False)
        self.assertIs(judge_closed(made, ((3, 1), (5, 1))), False)

    def test_rows_and_beats(self):
        row = ("row", BOOL, 2)
        made = flow((), ("delay", row, (), (0, 1), 0, ()), ("beat", BOOL, (), 2, 0))
        self.assertIs(judge_closed(made, (((0, 1), 0), ((0, 1), 1))), True)
        for states in ((((0, 1), 0),), (((0, 1), 0), ((0, 1), 2)), (((0, 1), -1), ((0, 1), 0), ((0, 1), 1)),
                       ((0, 0), (0, 1)), (((0, 1, 0), 0), ((0, 1), 1)), (((0,), 0), ((0, 1), 0), ((0, 1), 1)),
                       (((0, 1), 0), ((0, 1), 1), ((0, 2), 0)), (((0, 1), 0), ((0, 1), 1), (None, 0)),
                       (((0, 1), (0, 1)),), (((0, 1), 0), ((0, 1), None))):
            self.assertIs(judge_closed(made, states), False, states)

    def test_no_memory(self):
        made = flow((("x", BOOL, 0),), ("input", BOOL, (), 0), keeps=())
        self.assertIs(judge_closed(made, ((),)), True)
        self.assertIs(judge_closed(made, ()), False)
        self.assertIs(judge_closed(made, ((), ())), False)
        made = flow((("x", BOOL, 0),), ("input", BOOL, (), 0), keeps=(0,))
        self.assertIs(judge_closed(made, ((),)), False)

    def slow(self, made, states):
        looked = Looked(made)
        good = all(state in every_state(made) for state in states)
        if not good or list(states) != sorted(set(states)) or looked.start not in states:
            return False
        return all(not looked.tick(s, r)[1] and looked.after(s, r) in states
                   for s in states for r in all_rows(made) if looked.tick(s, r)[0])

    def test_random_sets(self):
        rng = random.Random(49)
        taken = 0
        for seed in range(150):
            made = small_flow(seed, 24)
            states = every_state(made)
            whole = tuple(sorted(set().union(*reached(made))))
            for _ in range(12):
                some = {state for state in states if rng.random() < 0.3} | set(whole)
                if rng.random() < 0.5:
                    some.discard(rng.choice(states))
                if rng.random() < 0.5:
                    some.discard(rng.choice(whole))
                told = tuple(sorted(some))
                wanted = self.slow(made, told)
                self.assertIs(judge_closed(made, told), wanted)
                taken += wanted
        self.assertGreater(taken, 60)


if __name__ == "__main__":
    unittest.main()
