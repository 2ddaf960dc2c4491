"""Split runs and lossy runs: [45], [47]."""

import random
import unittest

from keepsgoing.buses import frame_ticks, judge_bus, plain_bus
from keepsgoing.errors import NoLags, TooLarge
from keepsgoing.flowruns import FlowRun
from keepsgoing.flows import is_flow
from keepsgoing.lags import judge_lags, least_lags
from keepsgoing.splitruns import LossyRun, SplitRun
from tests.randomflows import random_flow, random_rows
from tests.randomsplits import BusOracle, is_early, ordered_split, random_bus, slow_crossing
from tests.runchecks import check_no_state, check_ticks

BOOL = ("bool",)
NUM = ("num", 0, 5, 1, "wrap")
UP = ("num", 2, 9, 1, "wrap")


def buses_of(seed, flow, split):
    """Some buses of a split for which there are lags."""
    rng = random.Random(seed)
    many = max(split) + 1
    found = []
    for at in range(6):
        try:
            if at < 2:
                bus = plain_bus(flow, split, tuple(rng.randint(1, 3) for _ in range(many)))
            else:
                bus = random_bus(seed + at, flow, split)
            if bus is not None:
                least_lags(flow, split, bus)
                found.append(bus)
        except (NoLags, TooLarge):
            continue
    return found


def cases(first, many):
    """Flows with splits, buses and lags that are taken."""
    rng = random.Random(first)
    for seed in range(first, first + many):
        flow = random_flow(seed, 8 + seed % 40)
        split = ordered_split(seed, flow, 1 + seed % 4)
        if split is None:
            continue
        for bus in buses_of(seed, flow, split):
            lags = least_lags(flow, split, bus)
            more = tuple(lag + rng.randrange(3) for lag in lags)
            for each in (lags, tuple(lag + 2 for lag in lags), more):
                if judge_lags(flow, split, bus, each):
                    yield seed, flow, split, bus, each


def delayed(flow, split, lags, rows):
    """What the plain run shows, each thing so many ticks later."""
    shown = list(FlowRun(flow).ticks(rows))
    owners = [split[node] for _, node in flow[3] + flow[4] + flow[5]]
    return [tuple(None if time < lags[p] else shown[time - lags[p]][at] for at, p in enumerate(owners))
            for time in range(len(rows))]


class SplitRuns(unittest.TestCase):
    def test_random_flows(self):
        crossed = early = late = 0
        for seed, flow, split, bus, lags in cases(0, 120):
            rows = random_rows(seed, 12)
            got = list(SplitRun(flow, split, bus, lags).ticks(rows))
            self.assertEqual(got, delayed(flow, split, lags, rows), (seed, split, bus, lags))
            nodes = slow_crossing(flow, split)
            crossed += len(nodes) > 0
            early += any(is_early(flow, node) for node in nodes)
            late += max(lags) > 0
        self.assertTrue(crossed > 100 and early > 30 and late > 60, (crossed, early, late))

    def test_frames_come_in_time(self):
        """With lags that the judge takes each value is heard ahead of its use, with others not."""
        for seed, flow, split, bus, lags in cases(200, 60):
            oracle = BusOracle(flow, split, bus, lags, random_rows(seed, 3))
            self.assertTrue(oracle.in_time(), (seed, split, bus, lags))
            for at, lag in enumerate(lags):
                less = lags[:at] + (lag - 1,) + lags[at + 1:]
                if lag > 0 and not judge_lags(flow, split, bus, less):
                    self.assertFalse(BusOracle(flow, split, bus, less, random_rows(seed, 3)).in_time())

    def test_one_controller(self):
        flow = random_flow(3, 20)
        bus = ("bus", 2, (0,), (1,), ())
        rows = random_rows(3, 6)
        self.assertEqual(list(SplitRun(flow, (0,) * 20, bus, (0,)).ticks(rows)), list(FlowRun(flow).ticks(rows)))
        got = list(SplitRun(flow, (0,) * 20, bus, (4,)).ticks(rows))
        self.assertEqual(got[:4], [(None,) * 23] * 4)
        self.assertEqual(got[4:], list(FlowRun(flow).ticks(rows[:2])))

    def test_equal_starts(self):
        """Two controllers that begin at once, and one that works ahead of both in the round."""
        flow = ("flow", (("x", NUM, 0),), (("input", NUM, (), 0), ("neg", NUM, (), 0), ("add", NUM, (), 0, 1)),
                (("a", 0), ("b", 1), ("c", 2)), (), ())
        split = (2, 1, 0)
        bus = ("bus", 6, (3, 3, 0), (1, 1, 1), ((0, 2), (1, 5)))
        self.assertEqual(least_lags(flow, split, bus), (1, 0, 0))
        rows = [(n,) for n in (1, 4, 2, 0)]
        self.assertEqual(list(SplitRun(flow, split, bus, (1, 0, 0)).ticks(rows)),
                         delayed(flow, split, (1, 0, 0), rows))

    def test_ahead_of_the_owner(self):
        """An early node lets another controller work one tick ahead of its own."""
        flow = ("flow", (("x", NUM, 0),), (("input", NUM, (), 0), ("delay", NUM, (), 4, 0, ()), ("neg", NUM, (), 1)),
                (("a", 1), ("b", 2)), (), ())
        split = (0, 0, 1)
        bus = ("bus", 4, (0, 3), (1, 1), ((1, 1),))
        self.assertEqual(frame_ticks(flow, split, bus, 1, 1), -1)
        run = SplitRun(flow, split, bus, (1, 0))
        self.assertEqual([run.tick((n,)) for n in (3, 1, 5)], [(None, 2), (4, 3), (3, 5)])

    def test_far_lags(self):
        flow, split, bus = CASE
        rows = [(n % 6,) for n in range(40)]
        for lags in ((0, 30), (7, 30), (20, 21)):
            self.assertTrue(judge_lags(flow, split, bus, lags))
            self.assertEqual(list(SplitRun(flow, split, bus, lags).ticks(rows)), delayed(flow, split, lags, rows))

    def test_long_runs_keep_little(self):
        flow, split, bus = CASE
        run = SplitRun(flow, split, bus, (2, 5))
        sizes = set()
        for tick in range(2000):
            run.tick((tick % 6,))
            if tick > 10:
                sizes.add(held(run))
        self.assertEqual(len(sizes), 1)

    def test_ticks(self):
        told = [case for case in cases(40, 20) if max(case[4]) > 0][:6]
        for seed, flow, split, bus, lags in told:
            rows = random_rows(seed, 8)
            check_ticks(self, lambda: SplitRun(flow, split, bus, lags), rows)
            check_no_state(self, SplitRun(flow, split, bus, lags))
            check_no_state(self, LossyRun(flow, split, bus, lags, ()))
            losses = some_losses(random.Random(seed), flow, split, 8, 0.3)
            check_ticks(self, lambda: LossyRun(flow, split, bus, lags, losses), rows)


def held(thing, seen=None):
    """How many things a run holds in lists and dicts, also in its parts."""
    seen = {} if seen is None else seen
    if id(thing) in seen:
        return 0
    seen[id(thing)] = thing
    if isinstance(thing, dict):
        return len(thing) + sum(held(each, seen) for each in thing.values())
    if isinstance(thing, (list, tuple)):
        return len(thing) + sum(held(each, seen) for each in thing)
    return held(vars(thing), seen) if hasattr(thing, "__dict__") else 0


# Node 0 goes from controller 0 to 1, in time for the same tick.
CASE = (("flow", (("x", NUM, 0),), (("input", NUM, (), 0), ("delay", NUM, (), 3, 2, ()), ("add", NUM, (), 0, 1)),
         (("a", 0), ("b", 2)), (), ()), (0, 1, 1), ("bus", 3, (0, 2), (1, 1), ((0, 1),)))


def some_losses(rng, flow, split, many, share):
    return tuple((time, node) for time in range(many) for node in slow_crossing(flow, split)
                 if rng.random() < share)


class LossyRuns(unittest.TestCase):
    def test_no_losses(self):
        for seed, flow, split, bus, lags in cases(300, 40):
            rows = random_rows(seed, 8)
            self.assertEqual(list(LossyRun(flow, split, bus, lags, ()).ticks(rows)),
                             list(SplitRun(flow, split, bus, lags).ticks(rows)))

    def test_random_losses(self):
        changed = early = 0
        rng = random.Random(47)
        for seed, flow, split, bus, lags in cases(400, 110):
            rows = random_rows(seed, 9)
            losses = some_losses(rng, flow, split, 12, rng.choice([0.1, 0.3, 0.7, 1]))
            oracle = BusOracle(flow, split, bus, lags, rows, losses)
            got = list(LossyRun(flow, split, bus, lags, losses).ticks(rows))
            self.assertEqual(got, [oracle.shown(time) for time in range(9)], (seed, split, bus, lags, losses))
            changed += got != delayed(flow, split, lags, rows)
            early += any(is_early(flow, node) for _, node in losses)
        self.assertTrue(changed > 60 and early > 20, (changed, early))

    def runs(self, case, lags, losses, rows):
        flow, split, bus = case
        self.assertTrue(is_flow(flow) and judge_bus(flow, split, bus) and judge_lags(flow, split, bus, lags))
        return [shown[-1] for shown in LossyRun(flow, split, bus, lags, losses).ticks(rows)]

    # What controller 1 has of a number of controller 0: with a frame in the same round, or in the next one.
    SAME = (("flow", (("x", UP, 0),), (("input", UP, (), 0), ("max", UP, (), 0, 0)), (("o", 1),), (), ()),
            (0, 1), ("bus", 3, (0, 2), (1, 1), ((0, 1),)))
    NEXT = (SAME[0], (0, 1), ("bus", 3, (1, 2), (1, 1), ((0, 0),)))
    EARLY = (("flow", (("x", UP, 0),), (("input", UP, (), 0), ("delay", UP, (), 9, 0, ()), ("max", UP, (), 1, 1)),
              (("o", 2),), (), ()), (0, 0, 1), ("bus", 3, (0, 2), (1, 1), ((1, 1),)))
    ROWS = [(n,) for n in (3, 4, 5, 6, 7)]
    # The zero of the kind is what 0 wraps to.
    ZERO = 8

    def test_a_lost_frame(self):
        self.assertEqual(self.runs(self.SAME, (0, 0), (), self.ROWS), [3, 4, 5, 6, 7])
        self.assertEqual(self.runs(self.SAME, (0, 0), ((2, 0),), self.ROWS), [3, 4, 4, 6, 7])
        self.assertEqual(self.runs(self.SAME, (0, 0), ((0, 0),), self.ROWS), [self.ZERO, 4, 5, 6, 7])
        self.assertEqual(self.runs(self.SAME, (0, 0), ((4, 0), (5, 0), (90, 0)), self.ROWS), [3, 4, 5, 6, 6])

    def test_several_in_a_row(self):
        self.assertEqual(self.runs(self.SAME, (0, 0), ((1, 0), (2, 0), (3, 0)), self.ROWS), [3, 3, 3, 3, 7])
        self.assertEqual(self.runs(self.SAME, (0, 0), ((0, 0), (1, 0), (3, 0)), self.ROWS), [8, 8, 5, 5, 7])

    def test_frames_in_the_next_round(self):
        """The frame at T tells what was worked out at T - 1; the one at 0 tells nothing."""
        self.assertEqual(self.runs(self.NEXT, (0, 1), ((0, 0),), self.ROWS), [None, 3, 4, 5, 6])
        self.assertEqual(self.runs(self.NEXT, (0, 1), ((1, 0),), self.ROWS), [None, 8, 4, 5, 6])
        self.assertEqual(self.runs(self.NEXT, (0, 1), ((0, 0), (2, 0), (3, 0)), self.ROWS), [None, 3, 3, 3, 6])

    def test_lags(self):
        """The ticks of the bus are counted, not those of the controllers."""
        self.assertEqual(self.runs(self.SAME, (2, 3), ((0, 0), (1, 0)), self.ROWS), [None, None, None, 3, 4])
        self.assertEqual(self.runs(self.SAME, (2, 3), ((2, 0),), self.ROWS), [None, None, None, 8, 4])
        self.assertEqual(self.runs(self.NEXT, (2, 3), ((2, 0), (4, 0)), self.ROWS), [None, None, None, 3, 3])
        # The frame is lost though nobody has asked for it for a long time.
        self.assertEqual(self.runs(self.SAME, (0, 3), ((1, 0),), self.ROWS), [None, None, None, 3, 3])

    def test_early_nodes(self):
        """The frame at T tells the value at T + 1; the first is known without a frame."""
        self.assertEqual(self.runs(self.EARLY, (0, 0), (), self.ROWS), [9, 3, 4, 5, 6])
        self.assertEqual(self.runs(self.EARLY, (0, 0), ((0, 1),), self.ROWS), [9, 9, 4, 5, 6])
        self.assertEqual(self.runs(self.EARLY, (0, 0), ((1, 1), (2, 1)), self.ROWS), [9, 3, 3, 3, 6])
        self.assertEqual(self.runs(self.EARLY, (1, 0), ((1, 1),), self.ROWS), [9, 9, 4, 5, 6])
        self.assertEqual(self.runs(self.EARLY, (1, 0), ((0, 1),), self.ROWS), [9, 3, 4, 5, 6])

    def test_a_node_that_is_not_there(self):
        """Its frame tells that, and then the zero counts, also for lost ones behind it."""
        clock = ((2, 1),)
        nodes = (("input", UP, (), 0), ("const", UP, (), 5), ("lt", BOOL, (), 0, 1), ("when", UP, clock, 0),
                 ("delay", UP, clock, 7, 3, ()), ("neg", UP, ((2, 0),), 6), ("when", UP, ((2, 0),), 1),
                 ("merge", UP, (), 2, (6, 4)))
        flow = ("flow", (("x", UP, 0),), nodes, (("o", 4),), (), ())
        split = (0, 0, 0, 0, 1, 0, 0, 1)
        bus = plain_bus(flow, split, (1, 1))
        case = (flow, split, bus)
        self.assertEqual(slow_crossing(flow, split), (2, 3, 6))
        rows = [(n,) for n in (3, 9, 2, 4, 3)]
        self.assertEqual(self.runs_at(case, (), rows, 0), [7, None, 3, 2, 4])
        # The clock is heard as of the tick before, and so is what was not there then.
        self.assertEqual(self.runs_at(case, ((1, 2),), rows, 0), [7, 3, 8, 2, 4])
        self.assertEqual(self.runs_at(case, ((2, 3),), rows, 0), [7, None, 3, 8, 4])
        self.assertEqual(self.runs_at(case, ((1, 2), (1, 3)), rows, 0), [7, 3, 3, 2, 4])

    def runs_at(self, case, losses, rows, at):
        flow, split, bus = case
        lags = least_lags(flow, split, bus)
        got = list(LossyRun(flow, split, bus, lags, losses).ticks(rows))
        oracle = BusOracle(flow, split, bus, lags, rows, losses)
        self.assertEqual(got, [oracle.shown(time) for time in range(len(rows))])
        return [shown[at] for shown in got]

    def test_two_runs_by_turns(self):
        flow, split, bus = CASE
        rows = [(n,) for n in (1, 5, 2, 3, 4, 0)]
        losses = ((1, 0), (4, 0))
        whole = list(SplitRun(flow, split, bus, (0, 1)).ticks(rows))
        lossy = list(LossyRun(flow, split, bus, (0, 1), losses).ticks(rows))
        self.assertNotEqual(whole, lossy)
        one, two = SplitRun(flow, split, bus, (0, 1)), LossyRun(flow, split, bus, (0, 1), losses)
        three = SplitRun(flow, split, bus, (0, 1))
        got = []
        for at, row in enumerate(rows):
            got.append((one.tick(row), two.tick(row)))
            three.tick(rows[-1 - at])
        self.assertEqual(got, list(zip(whole, lossy)))


if __name__ == "__main__":
    unittest.main()
