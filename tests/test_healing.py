"""Healing and tripled flows: [57], [58]."""

import itertools
import random
import unittest

from keepsgoing.deciding import decided
from keepsgoing.errors import TooLarge, TooMany
from keepsgoing.flowruns import FlowRun
from keepsgoing.flows import is_flow, is_straight, memory_of
from keepsgoing.healing import healing, judge_never
from keepsgoing.kinds import values_of
from keepsgoing.tripling import tripled
from tests.flowjudge import judged
from tests.randomflows import random_flow, random_rows
from tests.smallflows import Looked, all_rows, reached, small_flow

BOOL = ("bool",)
NUM = ("num", 0, 5, 1, "wrap")
MODE = ("mode", ("a", "b"))
ROW = ("row", BOOL, 2)


def flow(inputs, *nodes, assumes=()):
    made = ("flow", inputs, nodes, (("o", len(nodes) - 1),), tuple((f"p{at}", at) for at in assumes), ())
    assert is_flow(made)
    return made


def contents_of(made):
    """For each cell all its contents."""
    return [values_of(node[1]) if node[0] == "delay" else tuple(range(node[3]))
            for node in made[2] if node[0] in ("delay", "beat")]


def slow_healing(made):
    """How many states are reached, how many unequal pairs behind flips, and d, None for never."""
    looked = Looked(made)
    rows = all_rows(made)
    states = set().union(*reached(made, let=False))
    level = {(s, s[:cell] + (value,) + s[cell + 1:]) for s in states
             for cell, values in enumerate(contents_of(made)) for value in values if value != s[cell]}
    pairs = set(level)
    d = 0
    while level and d <= len(pairs):
        level = {(looked.after(one, row), looked.after(two, row)) for one, two in level for row in rows}
        level = {(one, two) for one, two in level if one != two}
        pairs |= level
        d += 1
    while level:
        # Some pairs are left for ever; all that are reached still count.
        level = {(looked.after(one, row), looked.after(two, row)) for one, two in level for row in rows}
        level = {(one, two) for one, two in level if one != two} - pairs
        pairs |= level
        d = None
    return len(states), len(pairs), d


def slow_never(made, answer):
    word, lead, cell, value, on, turn = answer
    contents = contents_of(made)
    good = word == "never" and len(turn) > 0 and 0 <= cell < len(contents) and value in contents[cell]
    if not good or not all(row in all_rows(made) for row in lead + on + turn):
        return False
    one = FlowRun(made)
    list(one.ticks(lead))
    if one.state[cell] == value:
        return False
    other = FlowRun(made)
    other.state = one.state[:cell] + (value,) + one.state[cell + 1:]
    list(one.ticks(on)), list(other.ticks(on))
    before = one.state, other.state
    list(one.ticks(turn)), list(other.ticks(turn))
    return before == (one.state, other.state) and before[0] != before[1]


class Within(unittest.TestCase):
    def test_by_hand(self):
        x = ("input", NUM, (), 0)
        given = (("x", NUM, 0),)
        self.assertEqual(healing(flow(given, x), 1), ("within", 0))
        self.assertEqual(healing(flow(given, x, ("delay", NUM, (), 0, 0, ())), 30), ("within", 1))
        two = flow(given, x, ("delay", NUM, (), 0, 0, ()), ("delay", NUM, (), 0, 1, ()))
        self.assertEqual(healing(two, 1000), ("within", 2))
        # What can have one value alone cannot be exchanged.
        one = ("num", 3, 3, 1, "wrap")
        self.assertEqual(healing(flow((), ("delay", one, (), 3, 0, ()), ("beat", BOOL, (), 1, 0)), 1), ("within", 0))

    def test_any_rows_count(self):
        """Also rows that are not let: they lead to states, and go on behind a flip."""
        given = (("x", BOOL, 0),)
        nodes = (("input", BOOL, (), 0), ("delay", BOOL, (), 0, 2, ()), ("and", BOOL, (), 0, 1))
        made = flow(given, *nodes)
        told = healing(made, 10)
        self.assertEqual(told[0], "never")
        with_assume = flow(given, *nodes, ("not", BOOL, (), 0), assumes=(3,))
        self.assertEqual(healing(with_assume, 10)[0], "never")
        self.assertEqual(decided(with_assume, 1), ("kept", ((0,),)))
        # No let row leads to a 1 in the first cell, from where alone the second one is flipped for two ticks.
        self.assertEqual(slow_healing(made)[2], None)

    def test_errors(self):
        wide = ("num", 0, 64, 1, "wrap")
        five = tuple((f"i{at}", BOOL, 0) for at in range(5))
        for made, most, part in (
                (flow(five, ("delay", wide, (), 0, 0, ())), 0, "rows"),
                (flow((), ("delay", wide, (), 0, 0, ())), 0, "values"),
                (flow((), ("delay", ("row", BOOL, 6), (), (0,) * 6, 0, ()), ("delay", wide, (), 0, 1, ())), 0, "values"),
                (flow((), ("delay", NUM, (), 0, 0, ())), 0, "states")):
            with self.assertRaises(TooMany) as caught:
                healing(made, most)
            self.assertEqual(caught.exception.part, part)
        # 64 values are not too many.
        row = ("row", BOOL, 6)
        self.assertEqual(healing(flow((), ("const", row, (), (0,) * 6), ("delay", row, (), (0,) * 6, 0, ())), 63),
                         ("within", 1))
        with self.assertRaises(TooMany) as caught:
            healing(flow((), ("const", row, (), (0,) * 6), ("delay", row, (), (0,) * 6, 0, ())), 62)
        self.assertEqual(caught.exception.part, "pairs")

    def test_random_flows(self):
        counts = {}
        for seed in range(300):
            made = small_flow(seed, 40)
            states, pairs, d = slow_healing(made)
            enough = max(states, pairs)
            told = healing(made, enough)
            self.assertEqual(told, healing(made, 100000))
            if d is None:
                self.assertEqual(told[0], "never")
                self.assertTrue(slow_never(made, told))
                self.assertIs(judge_never(made, told), True)
            else:
                self.assertEqual(told, ("within", d))
            counts[d] = counts.get(d, 0) + 1
            for most, part in ((states - 1, "states"), (max(states, pairs - 1), "pairs")):
                if part == "states" or most < pairs:
                    with self.assertRaises(TooMany) as caught:
                        healing(made, most)
                    self.assertEqual(caught.exception.part, part)
        self.assertTrue(all(counts.get(each, 0) > 5 for each in (1, 2, None)) and 3 in counts, counts)

    def check(self, made):
        """The answer, and the numbers of states and of pairs that are just enough."""
        states, pairs, d = slow_healing(made)
        told = healing(made, max(states, pairs))
        if d is None:
            self.assertTrue(slow_never(made, told))
            self.assertIs(judge_never(made, told), True)
        else:
            self.assertEqual(told, ("within", d))
        for most in (pairs - 1, states - 1):
            with self.assertRaises(TooMany) as caught:
                healing(made, most)
            self.assertEqual(caught.exception.part, "states" if most < states else "pairs")
        return told

    def test_a_short_and_a_long_way(self):
        """By some rows a flip is healed sooner than by others: the longest way counts."""
        nodes = (("input", BOOL, (), 0), ("const", BOOL, (), 0), ("delay", BOOL, (), 0, 1, ()), ("and", BOOL, (), 2, 0),
                 ("delay", BOOL, (), 0, 3, ()), ("delay", BOOL, (), 0, 4, ()), ("delay", BOOL, (), 0, 5, ()),
                 ("not", BOOL, (), 0), ("and", BOOL, (), 2, 7), ("delay", BOOL, (), 0, 8, ()))
        self.assertEqual(self.check(flow((("x", BOOL, 0),), *nodes)), ("within", 4))

    def test_pairs_that_no_flip_makes(self):
        """A flip comes to two cells at once, and from there to others: these pairs are counted, too."""
        nodes = (("input", BOOL, (), 0), ("const", BOOL, (), 0), ("delay", BOOL, (), 0, 1, ()),
                 ("delay", BOOL, (), 0, 2, ()), ("delay", BOOL, (), 0, 2, ()), ("and", BOOL, (), 3, 4),
                 ("delay", BOOL, (), 0, 5, ()), ("delay", BOOL, (), 0, 5, ()))
        self.assertEqual(self.check(flow((("x", BOOL, 0),), *nodes)), ("within", 3))

    def test_rows_in_their_order(self):
        """A flip stays for ever only if 1 comes at first, and then 2: no single cell keeps what is wrong."""
        three = ("num", 0, 2, 1, "wrap")
        nodes = (("input", three, (), 0), ("const", three, (), 1), ("const", three, (), 2), ("eq", BOOL, (), 0, 1),
                 ("eq", BOOL, (), 0, 2), ("const", BOOL, (), 0), ("delay", BOOL, (), 0, 5, ()), ("and", BOOL, (), 6, 3),
                 ("delay", BOOL, (), 0, 7, ()), ("delay", BOOL, (), 0, 7, ()), ("and", BOOL, (), 8, 9),
                 ("and", BOOL, (), 10, 4), ("delay", BOOL, (), 0, 15, ()), ("delay", BOOL, (), 0, 15, ()),
                 ("and", BOOL, (), 12, 13), ("or", BOOL, (), 11, 14))
        told = self.check(flow((("x", three, 0),), *nodes))
        self.assertEqual(told[4][:2], ((1,), (2,)))

    def test_leads_in_their_order(self):
        """Only in the state behind 1 and then 2 a flip can stay."""
        three = ("num", 0, 2, 1, "wrap")
        nodes = (("input", three, (), 0), ("delay", three, (), 0, 0, ()), ("const", three, (), 1), ("const", three, (), 2),
                 ("eq", BOOL, (), 0, 3), ("eq", BOOL, (), 1, 2), ("and", BOOL, (), 4, 5), ("or", BOOL, (), 6, 8),
                 ("delay", BOOL, (), 0, 7, ()), ("delay", BOOL, (), 0, 11, ()), ("xor", BOOL, (), 9, 8),
                 ("and", BOOL, (), 8, 9))
        told = self.check(flow((("x", three, 0),), *nodes))
        self.assertEqual(told[0], "never")

    def test_flips_that_heal_late(self):
        """A chain of delays behind a beat: the flip goes through all of them, from the beat it never ends."""
        x = ("input", BOOL, (), 0)
        chain = flow((("x", BOOL, 0),), x, *[("delay", BOOL, (), 0, at, ()) for at in range(5)])
        self.assertEqual(healing(chain, 32 * 32), ("within", 5))
        self.assertEqual(healing(flow((), ("beat", BOOL, (), 3, 0)), 9)[0], "never")


class Never(unittest.TestCase):
    # A counter that x puts on; a flip of it is never healed.
    MADE = flow((("x", NUM, 0),), ("input", NUM, (), 0), ("delay", NUM, (), 0, 2, ()), ("add", NUM, (), 0, 1),
                ("delay", NUM, (), 0, 0, ()))

    def judge(self, answer, wanted):
        self.assertIs(judge_never(self.MADE, answer), wanted, answer)
        self.assertIs(slow_never(self.MADE, answer), wanted)

    def test_taken(self):
        self.judge(("never", (), 0, 3, ((0,),), ((0,),)), True)
        self.judge(("never", ((2,),), 0, 3, (), ((2,),) * 3), True)
        self.judge(("never", ((2,), (3,)), 0, 0, ((3,), (1,)), ((5,), (1,))), True)

    def test_each_part_broken(self):
        good = ("never", ((2,), (3,)), 0, 0, ((3,), (1,)), ((5,), (1,)))
        self.judge(good, True)
        for at, others in (
                (0, ("", "within", "nevers")), (1, (((2,), (6,)), ((2,), (-1,)), ((1000000,),))),
                (2, (-1, 2, 1000000, -2)), (3, (5, 6, -1, 1000000)), (4, (((3,),), ((3,), (2,)), ((3,), (6,)))),
                (5, ((), ((5,),), ((5,), (2,)), ((5,), (7,)), ((1,), (5,))))):
            for other in others:
                self.judge(good[:at] + (other,) + good[at + 1:], False)
        # The new content is what is there without the flip.
        self.judge(("never", ((2,), (3,)), 0, 5, ((3,), (1,)), ((5,), (1,))), False)

    def test_healed_on_the_way(self):
        """Both runs come back, but their states are equal: the second cell heals in a tick."""
        self.judge(("never", (), 1, 3, ((2,),), ((0,), (2,), (4,))), False)
        self.judge(("never", (), 1, 3, (), ((2,), (0,), (4,))), False)

    def test_other_forms(self):
        for answer in (("never", (), 0, None, (), ((0,),)), ("never", (), 0, (1,), (), ((0,),)),
                       ("never", (), None, 1, (), ((0,),)), ("never", ((None,),), 0, 1, (), ((0,),)),
                       ("never", (), 0, 1, (), ((),)), ("never", (), 0, 1, ((0, 0),), ((0,),)),
                       (None, (), 0, 1, (), ((0,),))):
            self.assertIs(judge_never(self.MADE, answer), False)

    def test_rows_first(self):
        five = tuple((f"i{at}", BOOL, 0) for at in range(5))
        for answer in ((), ("never", (), 0, 0, (), ()), ("no",)):
            with self.assertRaises(TooMany) as caught:
                judge_never(flow(five, ("delay", BOOL, (), 0, 0, ())), answer)
            self.assertEqual(caught.exception.part, "rows")
        # The judge minds neither wide kinds nor many states.
        wide = ("num", -1000, 1000, 1, "wrap")
        self.assertIs(judge_never(flow((), ("delay", wide, (), 0, 0, ())), ("never", (), 0, 7, (), ((),))), True)

    def test_beats_and_rows(self):
        made = flow((), ("beat", BOOL, (), 3, 0), ("delay", ROW, (), (0, 1), 1, ()))
        self.assertIs(judge_never(made, ("never", ((),), 0, 2, (), ((),) * 3)), True)
        for value in (1, 3, -1, (0, 1)):
            self.assertIs(judge_never(made, ("never", ((),), 0, value, (), ((),) * 3)), False)
        self.assertIs(judge_never(made, ("never", (), 1, (1, 1), (), ((),) * 3)), True)
        for value in ((0, 1), (0,), (0, 2), (0, 1, 1), (), 1):
            self.assertIs(judge_never(made, ("never", (), 1, value, (), ((),) * 3)), False)
        self.assertIs(judge_never(made, ("never", (), 1, (1, 1), (), ((),) * 2)), False)

    def test_random_answers(self):
        rng = random.Random(57)
        taken = left = 0
        for seed in range(200):
            made = small_flow(seed, 20)
            rows = all_rows(made)
            some = lambda: tuple(rng.choice(rows) for _ in range(rng.choice([0, 1, 1, 2])))
            for _ in range(10):
                answer = ("never", some(), rng.randrange(3), rng.randrange(3), some(), some() + some())
                wanted = slow_never(made, answer)
                self.assertIs(judge_never(made, answer), wanted)
                taken, left = taken + wanted, left + (not wanted)
        self.assertTrue(taken > 50 and left > 200, (taken, left))


class Tripled(unittest.TestCase):
    def cells_of(self, made):
        return [made[2][node] for node in memory_of(made)]

    def check_form(self, made, got):
        self.assertTrue(is_flow(got) and judged(got) and is_straight(got))
        self.assertEqual(got[1], made[1])
        for part, other in zip(got[3:], made[3:]):
            self.assertEqual([name for name, _ in part], [name for name, _ in other])
        old, new = self.cells_of(made), self.cells_of(got)
        self.assertEqual(len(new), 3 * len(old))
        start = FlowRun(made).state
        self.assertEqual(FlowRun(got).state, tuple(each for each in start for _ in range(3)))
        for at, node in enumerate(old):
            kind = node[1] if node[0] == "delay" else ("num", 0, node[3] - 1)
            for copy in new[3 * at:3 * at + 3]:
                self.assertEqual(copy[0], "delay")
                self.assertEqual(copy[1][:len(kind)], kind)

    def test_form(self):
        for seed in range(60):
            made = random_flow(seed, 8 + seed)
            got = tripled(made)
            self.check_form(made, got)
            rows = random_rows(seed, 15)
            self.assertEqual(list(FlowRun(got).ticks(rows)), list(FlowRun(made).ticks(rows)))

    def test_beats(self):
        for n in range(1, 13):
            for k in (0, n - 1):
                made = flow((), ("beat", BOOL, (), n, k), ("beat", BOOL, ((0, 1),), n, k))
                got = tripled(made)
                self.check_form(made, got)
                self.assertEqual([node[1][1:3] for node in self.cells_of(got)], [(0, n - 1)] * 6)
                self.assertEqual(list(FlowRun(got).ticks([()] * 40)), list(FlowRun(made).ticks([()] * 40)))

    def test_every_single_flip(self):
        """One copy of a cell gets each other value: nothing that is shown changes."""
        for seed in range(40):
            made = small_flow(seed, 30)
            got = tripled(made)
            self.check_form(made, got)
            contents = [each for each in contents_of(made) for _ in range(3)]
            rng = random.Random(seed)
            rows = [rng.choice(all_rows(made)) for _ in range(6)]
            wanted = list(FlowRun(made).ticks(rows))
            run = FlowRun(got)
            for at, row in enumerate(rows):
                for cell, values in enumerate(contents):
                    for value in values:
                        with run.trial() as held:
                            held.state = held.state[:cell] + (value,) + held.state[cell + 1:]
                            self.assertEqual(list(held.ticks(rows[at:])), wanted[at:])
                run.tick(row)

    def test_wrong_copies_again_and_again(self):
        """Between any two times at which its copies are equal, at most one copy of each cell is wrong."""
        harmed = 0
        for seed in range(60):
            made = random_flow(seed, 8 + seed % 40)
            got = tripled(made)
            rng = random.Random(seed)
            contents = [values_of(node[1]) for node in self.cells_of(got)]
            rows = random_rows(seed, 20)
            wanted = list(FlowRun(made).ticks(rows))
            run = FlowRun(got)
            wrong = {}
            for row, shown in zip(rows, wanted):
                state = list(run.state)
                for cell in range(0, len(state), 3):
                    if len(set(state[cell:cell + 3])) == 1:
                        wrong.pop(cell, None)
                    # A copy that is wrong already can be exchanged again; no other one.
                    copy = wrong.setdefault(cell, cell + rng.randrange(3))
                    if rng.random() < 0.7:
                        others = [value for value in contents[copy] if value != state[copy]]
                        if others:
                            state[copy] = rng.choice(others)
                            harmed += 1
                run.state = tuple(state)
                self.assertEqual(run.tick(row), shown)
        self.assertGreater(harmed, 500)

    def test_copies_get_equal(self):
        """Behind each tick in which the cell is there, or the delay is emptied."""
        clock = ((0, 1),)
        nodes = (("input", BOOL, (), 0), ("input", BOOL, (), 1), ("when", BOOL, clock, 1),
                 ("delay", BOOL, clock, 1, 2, (1,)), ("beat", BOOL, clock, 3, 0), ("delay", BOOL, (), 0, 1, ()))
        made = flow((("x", BOOL, 0), ("y", BOOL, 0)), *nodes)
        got = tripled(made)
        for row, equal in (((1, 0), (True, True, True)), ((0, 1), (True, False, True)), ((0, 0), (False, False, True)),
                           ((1, 1), (True, True, True))):
            for copies in itertools.product(range(3), repeat=3):
                run = FlowRun(got)
                state = list(run.state)
                for cell, copy in enumerate(copies):
                    state[3 * cell + copy] = 1 - state[3 * cell + copy]
                run.state = tuple(state)
                run.tick(row)
                told = tuple(len(set(run.state[3 * cell:3 * cell + 3])) == 1 for cell in range(3))
                self.assertEqual(told, equal)

    def test_too_large(self):
        x = ("input", NUM, (), 0)
        made = flow((("x", NUM, 0),), x, *[("beat", BOOL, (), 7, 3)] * 199)
        self.assertLessEqual(len(tripled(made)[2]), 2000)
        made = flow((("x", NUM, 0),), x, *[("delay", NUM, (), 0, 0, ())] * 199)
        self.check_form(made, tripled(made))
        with self.assertRaises(TooLarge) as caught:
            tripled(flow((("x", NUM, 0),), x, *[("delay", NUM, (), 0, 0, ())] * 700))
        self.assertEqual(caught.exception.part, "flow")
        plain = flow((("x", NUM, 0),), *[x] * 2000)
        self.assertEqual(tripled(plain), plain)

    def test_modes_and_rows(self):
        nodes = (("const", MODE, (), 1), ("delay", MODE, (), 0, 0, ()), ("const", NUM, ((1, 1),), 2),
                 ("const", ROW, (), (0, 1)), ("delay", ROW, (), (1, 1), 3, ()), ("delay", NUM, ((1, 1),), 4, 2, ()))
        made = flow((), *nodes)
        self.check_form(made, tripled(made))
        self.assertEqual(list(FlowRun(tripled(made)).ticks([()] * 4)), list(FlowRun(made).ticks([()] * 4)))


if __name__ == "__main__":
    unittest.main()
