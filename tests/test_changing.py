"""Changes of program: [59] to [62]."""

import random
import unittest

from keepsgoing.carrying import carried, carry_of, judge_carry
from keepsgoing.changing import ChangedRun, judge_pairs, kept_on, seen_change
from keepsgoing.errors import TooLarge, TooMany
from keepsgoing.flowruns import FlowRun
from keepsgoing.flows import is_flow, memory_of
from tests.changedflows import SlowChange, deep_change, form, other_flow, random_change, slow_carried
from tests.randomflows import random_flow, random_rows
from tests.runchecks import check_no_state, check_ticks
from tests.smallflows import Looked, all_rows, every_state
from tests.test_classes import replaced, slow_alike, twice

BOOL = ("bool",)
NUM = ("num", 0, 5, 1, "wrap")
ROW = ("row", BOOL, 2)
GIVEN = (("x", BOOL, 0),)


def flow(*nodes, inputs=GIVEN, shown=None, assumes=(), keeps=()):
    shown = len(nodes) - 1 if shown is None else shown
    made = ("flow", inputs, nodes, (("o", shown),), tuple((f"p{k}", at) for k, at in enumerate(assumes)),
            tuple((f"q{k}", at) for k, at in enumerate(keeps)))
    assert is_flow(made)
    return made


def counter(first, step, keep=None):
    """A counter with a bool that puts it on; if it is told, the keep says that it is not this number."""
    nodes = [("input", BOOL, (), 0), ("const", NUM, (), step), ("delay", NUM, (), first, 5, ()), ("add", NUM, (), 2, 1),
             ("const", NUM, (), keep or 0), ("pick", NUM, (), 0, 3, 2), ("ne", BOOL, (), 2, 4)]
    return flow(*nodes, shown=2, keeps=() if keep is None else (6,))


class Papers(unittest.TestCase):
    OLD = flow(("input", BOOL, (), 0), ("delay", BOOL, (), 0, 0, ()), ("const", NUM, (), 1), ("delay", NUM, (), 4, 2, ()),
               ("beat", BOOL, (), 3, 1), ("beat", BOOL, (), 2, 1), ("delay", BOOL, (), 1, 1, (0,)))
    NEW = flow(("input", BOOL, (), 0), ("beat", BOOL, (), 3, 2), ("delay", BOOL, ((0, 1),), 1, 3, ()),
               ("const", BOOL, ((0, 1),), 0), ("const", NUM, (), 0), ("delay", NUM, (), 5, 4, (1,)), ("beat", BOOL, (), 2, 0))

    def judge(self, paper, wanted):
        self.assertIs(judge_carry(self.OLD, self.NEW, paper), wanted, paper)

    def test_judge(self):
        # Old cells: bool, num, beat 3, beat 2, bool. New cells: beat 3, bool, num, beat 2.
        for paper in ((None,) * 4, (2, 0, 1, 3), (2, 4, 1, 3), (None, 0, None, None), (2, None, 1, None)):
            self.judge(paper, True)
        for paper in ((), (None,) * 3, (None,) * 5, (2, 0, 1), (2, 0, 1, 3, None), (0, 0, 1, 3), (3, 0, 1, 3),
                      (2, 1, 1, 3), (2, 2, 1, 3), (2, 0, 0, 3), (2, 0, 2, 3), (2, 0, 1, 2), (2, 0, 1, 5), (-3, 0, 1, 3),
                      (2, -5, 1, 3), (2, 0, -4, 3), (1000000, 0, 1, 3), (2, 0, 1, -1000000)):
            self.judge(paper, False)

    def test_a_count_is_no_value(self):
        """A beat and a delay of a num with the same values are not of one form."""
        count = ("num", 0, 2, 1, "wrap")
        beat = flow(("beat", BOOL, (), 3, 0))
        delay = flow(("const", count, (), 0), ("delay", count, (), 0, 0, ()), ("const", BOOL, (), 0))
        self.assertIs(judge_carry(beat, delay, (0,)), False)
        self.assertIs(judge_carry(delay, beat, (0,)), False)
        self.assertIs(judge_carry(beat, beat, (0,)), True)
        # Kinds must be equal in all parts.
        for other in (("num", 0, 2, 1, "hold"), ("num", 0, 2, 2, "wrap"), ("num", 0, 3, 1, "wrap")):
            made = flow(("const", other, (), 0), ("delay", other, (), 0, 0, ()), ("const", BOOL, (), 0))
            self.assertIs(judge_carry(delay, made, (0,)), False)

    def test_carried(self):
        self.assertEqual(carried(self.OLD, self.NEW, (2, 4, None, 3), (0, 3, 2, 1, 1)), (2, 1, 5, 1))
        self.assertEqual(carried(self.OLD, self.NEW, (None,) * 4, (0, 3, 2, 1, 1)), (0, 1, 5, 0))
        self.assertEqual(carried(self.OLD, self.NEW, (None, 0, 1, None), (0, 3, 2, 1, 1)), (0, 0, 3, 0))

    def test_random_papers(self):
        rng = random.Random(59)
        counts = [0, 0]
        for seed in range(150):
            old, new, paper = random_change(seed, 200)
            self.assertIs(judge_carry(old, new, paper), True)
            given = [old[2][node] for node in memory_of(old)]
            taking = [new[2][node] for node in memory_of(new)]
            for state in rng.sample(every_state(old), min(5, len(every_state(old)))):
                self.assertEqual(carried(old, new, paper, state), slow_carried(old, new, paper, state))
            for _ in range(10):
                some = tuple(rng.choice([None] + list(range(-1, len(given) + 1))) for _ in taking)
                wanted = all(cell is None or (0 <= cell < len(given) and form(given[cell]) == form(node))
                             for cell, node in zip(some, taking))
                self.assertIs(judge_carry(old, new, some), wanted)
                counts[wanted] += 1
        self.assertGreater(min(counts), 60)


def joined(old, new):
    """The nodes of the old flow followed by those of the new one."""
    shift = len(old[2])
    nodes = old[2] + tuple(replaced(node, range(shift, 3000)) for node in new[2])
    return ("flow", old[1], nodes, (("o", 0),), (), ())


class CarryOf(unittest.TestCase):
    def test_by_hand(self):
        # Equal flows: each cell has itself as its twin, or the least one that is like it.
        made = counter(0, 1)
        self.assertEqual(carry_of(made, made), (0,))
        self.assertEqual(carry_of(made, counter(1, 1)), (None,))
        self.assertEqual(carry_of(made, counter(0, 2)), (None,))
        x = ("input", BOOL, (), 0)
        old = flow(x, ("delay", BOOL, (), 1, 0, ()), ("delay", BOOL, (), 0, 0, ()), ("delay", BOOL, (), 0, 0, ()))
        new = flow(("delay", BOOL, (), 0, 1, ()), x, ("delay", BOOL, (), 1, 1, ()), ("beat", BOOL, (), 2, 0))
        self.assertEqual(carry_of(old, new), (1, 0, None))
        self.assertEqual(carry_of(new, old), (1, 0, 0))

    def test_what_is_shown_counts_for_nothing(self):
        old = counter(0, 1)
        new = old[:3] + ((("z", 0),), (), ())
        self.assertEqual(carry_of(old, new), (0,))

    def test_random_flows(self):
        rng = random.Random(60)
        twins = 0
        for seed in range(60):
            old = random_flow(seed, 8 + seed % 30)
            new = old if seed % 3 == 0 else twice(old) if seed % 3 == 1 else other_flow(rng, old)
            leaders = slow_alike(joined(old, new))
            shift = len(old[2])
            wanted = []
            for node in memory_of(new):
                cells = [cell for cell, other in enumerate(memory_of(old)) if leaders[other] == leaders[shift + node]]
                wanted.append(cells[0] if cells else None)
            paper = carry_of(old, new)
            self.assertEqual(paper, tuple(wanted))
            self.assertIs(judge_carry(old, new, paper), True)
            twins += sum(cell is not None for cell in paper)
            # A twin contains at each time what the cell would contain if the new flow had run.
            one, two = FlowRun(old), FlowRun(new)
            for row in random_rows(seed, 10):
                one.tick(row), two.tick(row)
                for cell, held in enumerate(paper):
                    if held is not None:
                        self.assertEqual(two.state[cell], one.state[held])
                        self.assertEqual(carried(old, new, paper, one.state)[cell], two.state[cell])
        self.assertGreater(twins, 100)

    def test_too_large(self):
        x = ("input", BOOL, (), 0)
        old, new = flow(*[x] * 1000), flow(*[x] * 999, ("delay", BOOL, (), 0, 0, ()))
        self.assertEqual(carry_of(old, new), (None,))
        with self.assertRaises(TooLarge) as caught:
            carry_of(old, flow(*[x] * 1001))
        self.assertEqual(caught.exception.part, "flow")


class Seen(unittest.TestCase):
    def test_by_hand(self):
        old = counter(0, 1)
        # Without the content of the old counter, the change is seen at once when it has counted.
        self.assertEqual(seen_change(old, old, (None,), 100), ("seen", ((1,), (0,)), 1))
        # With it, only when the new one has counted otherwise.
        self.assertEqual(seen_change(old, counter(0, 2), (0,), 100), ("seen", ((1,), (0,)), 0))
        self.assertEqual(seen_change(old, counter(3, 1), (None,), 100), ("seen", ((0,),), 0))
        pairs = tuple(((n,), (n,)) for n in range(6))
        self.assertEqual(seen_change(old, old, (0,), 6), ("never", pairs))
        self.assertEqual(seen_change(old, counter(3, 1), (0,), 6), ("never", pairs))

    def test_the_least_at(self):
        """Several times of a change are seen by the same rows: the least one is told."""
        x = ("input", BOOL, (), 0)
        old = flow(x, ("delay", BOOL, (), 0, 0, ()), ("delay", BOOL, (), 0, 1, ()), ("delay", BOOL, (), 0, 2, ()))
        # The new flow shows the input of two ticks ago, not of three.
        new = flow(x, ("delay", BOOL, (), 0, 0, ()), ("delay", BOOL, (), 0, 1, ()), ("delay", BOOL, (), 0, 1, ()), shown=3)
        self.assertEqual(seen_change(old, new, (0, 1, 2), 100), ("seen", ((1,), (0,), (0,)), 0))
        # All contents are forgotten by the change: it must come behind the row with 1.
        self.assertEqual(seen_change(old, old, (None,) * 3, 100), ("seen", ((1,), (0,), (0,), (0,)), 1))
        self.assertEqual(SlowChange(old, old, (None,) * 3).first(SlowChange(old, old, (None,) * 3).sees, 4),
                         (((1,), (0,), (0,), (0,)), 1))

    def test_all_rows_count(self):
        """Rows that are not let by the assumes count, too, of the old flow and of the new one."""
        x = ("input", BOOL, (), 0)
        nodes = (x, ("delay", BOOL, (), 0, 0, ()), ("not", BOOL, (), 0))
        old = flow(*nodes, shown=1, assumes=(2,))
        new = flow(*nodes, shown=1, assumes=(2,))
        self.assertEqual(seen_change(old, new, (None,), 100), ("seen", ((1,), (0,)), 1))
        # Assumes and keeps are shown, too.
        self.assertEqual(seen_change(flow(*nodes, shown=1, keeps=(2,)), flow(*nodes, shown=1, keeps=(0,)), (0,), 9),
                         ("seen", ((0,),), 0))

    def test_errors(self):
        five = tuple((f"i{at}", BOOL, 0) for at in range(5))
        made = flow(("delay", BOOL, (), 0, 0, ()), inputs=five)
        for call in (lambda: seen_change(made, made, (0,), 0), lambda: judge_pairs(made, made, (0,), ()),
                     lambda: kept_on(made, made, (0,), 0)):
            with self.assertRaises(TooMany) as caught:
                call()
            self.assertEqual(caught.exception.part, "rows")
        old = counter(0, 1)
        for most in (5, 1, 0):
            with self.assertRaises(TooMany) as caught:
                seen_change(old, old, (0,), most)
            self.assertEqual(caught.exception.part, "pairs")

    def test_just_enough_pairs(self):
        """The pairs that are reached by fewer rows than the fewest that see the change, no others."""
        old = counter(0, 1)
        # Behind no row one pair; behind one row (1) another two.
        self.assertEqual(seen_change(old, old, (None,), 3)[0], "seen")
        with self.assertRaises(TooMany) as caught:
            seen_change(old, old, (None,), 2)
        self.assertEqual(caught.exception.part, "pairs")
        self.assertEqual(seen_change(old, counter(3, 1), (None,), 1)[0], "seen")
        with self.assertRaises(TooMany):
            seen_change(old, counter(3, 1), (None,), 0)

    def test_random_changes(self):
        seen = never = long = late = 0
        for seed in range(500):
            old, new, paper = random_change(seed)
            slow = SlowChange(old, new, paper)
            levels = slow.pair_levels()
            depth = next((k for k, level in enumerate(levels) for s, t in level for r in slow.rows
                          if slow.old.tick(s, r)[2] != slow.new.tick(t, r)[2]), None)
            known = set().union(*(levels if depth is None else levels[:depth + 1]))
            told = seen_change(old, new, paper, len(known))
            if depth is None:
                never += 1
                self.assertEqual(told, ("never", tuple(sorted(known))))
                self.assertIs(judge_pairs(old, new, paper, told[1]), True)
            else:
                seen += 1
                self.assertEqual((told[0], len(told[1])), ("seen", depth + 1))
                if len(slow.rows) ** (depth + 1) < 3000:
                    long += depth > 1
                    late += told[2] > 0
                    self.assertEqual(told[1:], slow.first(slow.sees, depth + 1))
                self.assertTrue(slow.sees(*told[1:]))
            self.assertEqual(seen_change(old, new, paper, 10 ** 6), told)
            for most in (len(known) - 1, 0):
                with self.assertRaises(TooMany) as caught:
                    seen_change(old, new, paper, most)
                self.assertEqual(caught.exception.part, "pairs")
        self.assertTrue(seen > 100 and never > 100 and long > 8 and late > 20, (seen, never, long, late))


class Deep(unittest.TestCase):
    """Changes that are seen, or break the contract, only behind several rows: the first ones count."""

    def check(self, call, test):
        depths, late = {}, 0
        for seed in range(700):
            old, new, paper = deep_change(seed)
            told = call(old, new, paper, 10 ** 6)
            slow = SlowChange(old, new, paper)
            if len(told) == 3 and 2 <= len(told[1]) <= 6 and len(slow.rows) ** len(told[1]) <= 1000:
                self.assertEqual(told[1:], slow.first(getattr(slow, test), len(told[1])), seed)
                depths[len(told[1])] = depths.get(len(told[1]), 0) + 1
                late += told[2] > 0
        self.assertTrue(all(depths.get(each, 0) > 10 for each in (2, 3, 4)) and 5 in depths and late > 40, (depths, late))

    def test_seen(self):
        self.check(seen_change, "sees")

    def test_broken(self):
        self.check(kept_on, "breaks")


class Pairs(unittest.TestCase):
    def test_each_condition(self):
        old = counter(0, 1)
        pairs = tuple(((n,), (n,)) for n in range(6))
        self.assertIs(judge_pairs(old, old, (0,), pairs), True)
        for wrong in ((), pairs[1:], pairs[:5], pairs[:2] + pairs[3:], pairs[::-1], pairs + pairs[5:], pairs[:1] + pairs,
                      pairs + (((6,), (6,)),), pairs[:5] + (((5,), (6,)),), (((0,), (0, 0)),) + pairs[1:],
                      (((0,), ()),) + pairs[1:], (((-1,), (0,)),) + pairs, pairs[:5] + (((5,), (None,)),),
                      pairs[:5] + (((5, 5), (5,)),), pairs + (((1000000,), (5,)),)):
            self.assertIs(judge_pairs(old, old, (0,), wrong), False, wrong)
        # More pairs than are reached are no harm if both flows show the same in them.
        self.assertIs(judge_pairs(old, old, (0,), pairs[:1] + (((0,), (3,)),) + pairs[1:]), False)
        same = flow(("input", BOOL, (), 0), ("delay", NUM, (), 0, 1, ()), ("const", NUM, (), 1))
        self.assertIs(judge_pairs(same, same, (0,), (((0,), (0,)),)), True)
        self.assertIs(judge_pairs(same, same, (0,), (((0,), (0,)), ((3,), (3,)))), True)
        # The first one of a pair needs its own carried state, too.
        self.assertIs(judge_pairs(same, same, (0,), (((0,), (0,)), ((3,), (4,)))), False)
        self.assertIs(judge_pairs(same, same, (0,), (((0,), (0,)), ((3,), (3,)), ((3,), (4,)))), True)
        self.assertIs(judge_pairs(same, same, (None,), (((0,), (0,)), ((3,), (0,)))), True)
        self.assertIs(judge_pairs(same, same, (None,), (((3,), (0,)),)), False)
        # All else would be right but that 6 is no value of the kind, or a state too long.
        self.assertIs(judge_pairs(same, same, (0,), (((0,), (0,)), ((0,), (6,)))), False)
        self.assertIs(judge_pairs(same, same, (0,), (((0,), (0,)), ((0,), (0, 0)))), False)
        self.assertIs(judge_pairs(same, same, (None,), (((0,), (0,)), ((5,), (0,)))), True)
        self.assertIs(judge_pairs(same, same, (None,), (((0,), (0,)), ((6,), (0,)))), False)
        self.assertIs(judge_pairs(same, same, (None,), (((0,), (0,)), ((0, 0), (0,)))), False)

    def test_carried_states_of_those_behind(self):
        """It is the state to which the old flow leads that needs its carried state in the set."""
        x = ("input", BOOL, (), 0)
        old = flow(x, ("delay", BOOL, (), 0, 2, ()), ("const", BOOL, (), 1), ("const", BOOL, (), 0))
        self.assertIs(judge_pairs(old, old, (None,), (((0,), (0,)), ((1,), (0,)), ((1,), (1,)))), True)
        self.assertIs(judge_pairs(old, old, (None,), (((0,), (0,)), ((1,), (1,)))), False)

    def test_flows_that_show_something_else(self):
        x = ("input", BOOL, (), 0)
        self.assertIs(judge_pairs(flow(x), flow(x), (), (((), ()),)), True)
        self.assertIs(judge_pairs(flow(x), flow(x, ("not", BOOL, (), 0)), (), (((), ()),)), False)
        self.assertIs(judge_pairs(flow(x), flow(x), (), ()), False)

    def slow(self, old, new, paper, pairs):
        one, two = Looked(old), Looked(new)
        states, others = every_state(old), every_state(new)
        if any(s not in states or t not in others for s, t in pairs) or list(pairs) != sorted(set(pairs)):
            return False
        if (one.start, slow_carried(old, new, paper, one.start)) not in pairs:
            return False
        for s, t in pairs:
            for row in all_rows(old):
                after = one.after(s, row)
                if one.tick(s, row)[2] != two.tick(t, row)[2] or (after, two.after(t, row)) not in pairs:
                    return False
                if (after, slow_carried(old, new, paper, after)) not in pairs:
                    return False
        return True

    def test_random_sets(self):
        rng = random.Random(61)
        taken = left = 0
        for seed in range(250):
            old, new, paper = random_change(seed, 12)
            slow = SlowChange(old, new, paper)
            whole = set().union(*slow.pair_levels())
            pairs = [(s, t) for s in every_state(old) for t in every_state(new)]
            for _ in range(6):
                some = set(whole)
                if rng.random() < 0.5:
                    some |= set(rng.sample(pairs, min(len(pairs), rng.choice([1, 2]))))
                if rng.random() < 0.4:
                    some.discard(rng.choice(sorted(whole)))
                told = tuple(sorted(some))
                wanted = self.slow(old, new, paper, told)
                self.assertIs(judge_pairs(old, new, paper, told), wanted)
                taken, left = taken + wanted, left + (not wanted)
        self.assertTrue(taken > 100 and left > 200, (taken, left))


class Kept(unittest.TestCase):
    def test_by_hand(self):
        # The new counter begins where the old one is; it must not come to 3.
        old, new = counter(0, 2), counter(0, 1, 3)
        old = old[:5] + ((("q0", 6),),)
        self.assertEqual(kept_on(old, new, (0,), 100), ("broken", ((1,), (1,), (0,)), 1))
        self.assertEqual(kept_on(old, new, (None,), 100), ("broken", ((1,), (1,), (1,), (0,)), 0))
        # A contract that the old flow breaks is no matter.
        broken = counter(0, 1, 0)
        self.assertEqual(kept_on(broken, counter(0, 2, 3), (None,), 100), ("kept", ((0,), (2,), (4,))))
        self.assertEqual(kept_on(broken, counter(0, 2, 3), (0,), 100), ("broken", ((1,), (1,), (0,)), 1))
        self.assertEqual(kept_on(broken, counter(3, 2, 3), (None,), 3), ("broken", ((0,),), 0))

    def test_assumes(self):
        """Only rows that are let count, for the old flow and for the new one."""
        x = ("input", BOOL, (), 0)
        nodes = (x, ("delay", BOOL, (), 0, 0, ()), ("not", BOOL, (), 0), ("not", BOOL, (), 1))
        no_one = flow(*nodes, assumes=(2,), keeps=(3,))
        every = flow(*nodes[:2], ("const", BOOL, (), 1), nodes[3], assumes=(2,), keeps=(3,))
        self.assertEqual(kept_on(no_one, no_one, (0,), 2), ("kept", ((0,),)))
        self.assertEqual(kept_on(every, no_one, (0,), 9), ("broken", ((1,), (0,)), 1))
        self.assertEqual(kept_on(no_one, every, (0,), 9), ("broken", ((1,), (0,)), 0))
        self.assertEqual(kept_on(every, no_one, (None,), 9), ("kept", ((0,),)))

    def test_just_enough_states(self):
        """The states of both flows are added up."""
        free = counter(0, 1, 5)
        self.assertEqual(kept_on(free, counter(0, 1)[:5] + (free[5],), (0,), 12)[0], "broken")
        keeps = flow(*counter(0, 1)[2], ("const", BOOL, (), 1), shown=2, keeps=(7,))
        self.assertEqual(kept_on(free, keeps, (0,), 12), ("kept", tuple((n,) for n in range(6))))
        for most in (11, 1, 0):
            with self.assertRaises(TooMany) as caught:
                kept_on(free, keeps, (0,), most)
            self.assertEqual(caught.exception.part, "states")
        self.assertEqual(kept_on(free, keeps, (None,), 12)[0], "kept")

    def test_random_changes(self):
        broken = kept = long = late = 0
        for seed in range(900):
            old, new, paper = random_change(seed)
            slow = SlowChange(old, new, paper)
            levels = slow.state_levels()
            depth = next((k for k, (_, news) in enumerate(levels) for s in news for r in slow.rows
                          if slow.new.tick(s, r)[0] and slow.new.tick(s, r)[1]), None)
            held = levels if depth is None else levels[:depth + 1]
            known = set().union(*[news for _, news in held])
            enough = len(known) + len(set().union(*[olds for olds, _ in held]))
            told = kept_on(old, new, paper, enough)
            if depth is None:
                kept += 1
                self.assertEqual(told, ("kept", tuple(sorted(known))))
            else:
                broken += 1
                self.assertEqual((told[0], len(told[1])), ("broken", depth + 1))
                self.assertTrue(slow.breaks(*told[1:]))
                if len(slow.rows) ** (depth + 1) < 3000:
                    long += depth > 1
                    late += told[2] > 0
                    self.assertEqual(told[1:], slow.first(slow.breaks, depth + 1))
            self.assertEqual(kept_on(old, new, paper, 10 ** 6), told)
            for most in (enough - 1, 0):
                with self.assertRaises(TooMany) as caught:
                    kept_on(old, new, paper, most)
                self.assertEqual(caught.exception.part, "states")
        self.assertTrue(broken > 100 and kept > 100 and long > 8 and late > 2, (broken, kept, long, late))


class ChangedRuns(unittest.TestCase):
    def test_random_changes(self):
        for seed in range(120):
            old, new, paper = random_change(seed, 60)
            rng = random.Random(seed)
            rows = [rng.choice(all_rows(old)) for _ in range(8)]
            for at in range(10):
                run = FlowRun(old)
                wanted = [run.tick(row) for row in rows[:at]]
                behind = FlowRun(new)
                behind.state = slow_carried(old, new, paper, run.state)
                wanted += [behind.tick(row) for row in rows[at:]]
                self.assertEqual(list(ChangedRun(old, new, paper, at).ticks(rows)), wanted)

    def test_by_hand(self):
        old, new = counter(0, 1), counter(4, 2)
        rows = [(1,)] * 4
        self.assertEqual(list(ChangedRun(old, new, (0,), 0).ticks(rows)), [(0,), (2,), (4,), (0,)])
        self.assertEqual(list(ChangedRun(old, new, (0,), 1).ticks(rows)), [(0,), (1,), (3,), (5,)])
        self.assertEqual(list(ChangedRun(old, new, (None,), 2).ticks(rows)), [(0,), (1,), (4,), (0,)])
        self.assertEqual(list(ChangedRun(old, new, (0,), 4).ticks(rows)), [(0,), (1,), (2,), (3,)])

    def test_ticks(self):
        old, new = counter(0, 1), counter(0, 2)
        rows = [(1,), (0,), (1,), (1,), (0,), (1,)]
        for at in (0, 2, 9):
            check_ticks(self, lambda: ChangedRun(old, new, (0,), at), rows)
            check_no_state(self, ChangedRun(old, new, (0,), at))

    def test_seen_by_a_changed_run(self):
        """What sees a change is shown by the changed run, and what is never seen is not."""
        for seed in range(150):
            old, new, paper = random_change(seed)
            told = seen_change(old, new, paper, 10 ** 6)
            if told[0] == "seen":
                _, rows, at = told
                changed = list(ChangedRun(old, new, paper, at).ticks(rows))
                plain = list(FlowRun(old).ticks(rows))
                self.assertNotEqual(changed[-1], plain[-1])
                self.assertEqual(changed[:-1], plain[:-1])
                continue
            rng = random.Random(seed)
            rows = [rng.choice(all_rows(old)) for _ in range(7)]
            for at in range(8):
                self.assertEqual(list(ChangedRun(old, new, paper, at).ticks(rows)), list(FlowRun(old).ticks(rows)))


if __name__ == "__main__":
    unittest.main()
