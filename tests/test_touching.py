"""What a fault can reach: [55], [56], and lost frames: [47]."""

import random
import unittest

from keepsgoing.flows import is_flow, memory_of
from keepsgoing.kinds import values_of
from keepsgoing.splitruns import LossyRun, SplitRun
from keepsgoing.touching import gone, touched
from tests.knotflows import hangs_on
from tests.randomflows import FlowOracle, random_flow, random_rows
from tests.test_splitruns import cases, some_losses

BOOL = ("bool",)
NUM = ("num", 0, 5, 1, "wrap")


def flow(*nodes):
    made = ("flow", (("x", NUM, 0),), nodes, (("o", len(nodes) - 1),), (), ())
    assert is_flow(made)
    return made


def slow_touched(made, seeds, cells, many, lasts):
    """By the words, for each tick the touched nodes and the touched cells behind it."""
    nodes = made[2]
    cell_of = {node: cell for cell, node in enumerate(memory_of(made))}
    wrong = set(cells)
    found = []
    for tick in range(many):
        memo = {}

        def is_touched(node):
            if node not in memo:
                memo[node] = (node in seeds and (lasts or tick == 0)) or cell_of.get(node) in wrong or any(
                    [is_touched(each) for each in hangs_on(nodes[node])])
            return memo[node]
        at = tuple(node for node in range(len(nodes)) if is_touched(node))
        behind = set()
        for node, cell in cell_of.items():
            word, _, clock, *rest = nodes[node]
            if cell in wrong and (word == "beat" or clock != ()):
                behind.add(cell)
            if word == "delay" and clock == ():
                if rest[1] in at:
                    behind.add(cell)
            else:
                looks = [c for c, _ in clock] + (list((rest[1],) + rest[2]) if word == "delay" else [])
                if any(each in at for each in looks):
                    behind.add(cell)
        wrong = behind
        found.append((at, tuple(sorted(wrong))))
    return found


class WrongRun(FlowOracle):
    """A run in which some nodes have wrong values at some ticks, and some cells a wrong content at first."""

    def __init__(self, flow, rows, start, wrong_nodes, wrong_cells):
        super().__init__(flow, rows)
        self.start, self.wrong_nodes, self.wrong_cells = start, wrong_nodes, wrong_cells

    def value(self, node, tick):
        right = super().value(node, tick)
        if right is not None and (node, tick) in self.wrong_nodes:
            return self.wrong_nodes[node, tick]
        return right

    def worked_out(self, node, tick):
        told = self.nodes[node]
        if told[0] == "input" and self.rows[tick][told[3]] is None:
            # By a wrong `here`, an event that does not come is looked at.
            return values_of(told[1])[-1]
        return super().worked_out(node, tick)

    def content(self, node, tick):
        # The contents ahead of the start are right; then they go on from the wrong ones.
        told = self.nodes[node]
        if tick < self.start or node not in self.wrong_cells:
            return super().content(node, tick)
        content = self.wrong_cells[node]
        for t in range(self.start, tick):
            if told[0] == "beat":
                content = (content + (self.value(node, t) is not None)) % told[3]
                continue
            if any(self.value(reset, t) == 1 for reset in told[5]):
                content = told[3]
            if self.value(told[4], t) is not None:
                content = self.value(told[4], t)
        return content


class Touched(unittest.TestCase):
    # An input, a delay with the clock (), a sum with it, and what comes from a const alone.
    PLAIN = flow(("input", NUM, (), 0), ("delay", NUM, (), 0, 2, ()), ("add", NUM, (), 0, 0), ("add", NUM, (), 1, 2),
                 ("const", NUM, (), 3), ("neg", NUM, (), 4))

    def test_seeds(self):
        made = self.PLAIN
        self.assertEqual(touched(made, (0,), (), 4), ((0, 2, 3), (1, 3), (), ()))
        self.assertEqual(touched(made, (0,), (), 3, lasts=True), ((0, 2, 3), (0, 1, 2, 3), (0, 1, 2, 3)))
        self.assertEqual(touched(made, (1,), (), 2), ((1, 3), ()))
        self.assertEqual(touched(made, (4,), (), 2), ((4, 5), ()))
        self.assertEqual(touched(made, (1, 4), (), 2, lasts=True), ((1, 3, 4, 5),) * 2)
        self.assertEqual(touched(made, (), (), 3), ((), (), ()))
        self.assertEqual(touched(made, (0,), (), 0), ())

    def test_cells(self):
        self.assertEqual(touched(self.PLAIN, (), (0,), 3), ((1, 3), (), ()))
        # The cells are wrong ahead of the tick 0 alone, also for a fault that lasts.
        self.assertEqual(touched(self.PLAIN, (), (0,), 3, lasts=True), ((1, 3), (), ()))
        self.assertEqual(touched(self.PLAIN, (4,), (0,), 2, lasts=True), ((1, 3, 4, 5), (4, 5)))
        # A counter never forgets.
        made = flow(("const", NUM, (), 1), ("delay", NUM, (), 0, 2, ()), ("add", NUM, (), 0, 1))
        self.assertEqual(touched(made, (), (0,), 3), ((1, 2),) * 3)
        self.assertEqual(touched(made, (0,), (), 3), ((0, 2), (1, 2), (1, 2)))

    def test_beats(self):
        """A count stays wrong; what has the beat in its clock is touched, and so is its content."""
        clock = ((0, 1),)
        made = flow(("beat", BOOL, (), 3, 1), ("const", NUM, clock, 2), ("delay", NUM, clock, 1, 1, ()),
                    ("beat", BOOL, clock, 2, 0), ("const", NUM, (), 1))
        self.assertEqual(touched(made, (), (0,), 3), ((0, 1, 2, 3),) * 3)
        # A beat that is wrong for a tick has a right count, but those in its clock do not.
        self.assertEqual(touched(made, (0,), (), 3), ((0, 1, 2, 3), (2, 3), (2, 3)))
        self.assertEqual(touched(made, (), (2,), 2), ((3,), (3,)))
        # The a of a delay on a sampled clock, for one tick.
        self.assertEqual(touched(made, (1,), (), 3), ((1,), (2,), (2,)))

    def test_resets(self):
        """A reset touches the delay at once; with the clock () that is forgotten at the end of the tick."""
        made = flow(("const", BOOL, (), 0), ("const", NUM, (), 3), ("delay", NUM, (), 0, 1, (0,)), ("neg", NUM, (), 2),
                    ("when", NUM, ((4 + 1, 1),), 1), ("const", BOOL, (), 1), ("delay", NUM, ((5, 1),), 2, 4, (0,)))
        self.assertEqual(touched(made, (0,), (), 3), ((0, 2, 3, 6), (6,), (6,)))
        self.assertEqual(gone(made, (0,)), 1)
        self.assertEqual(touched(made, (5,), (), 2), ((4, 5, 6), (6,)))

    def test_random_flows(self):
        rng = random.Random(55)
        for seed in range(120):
            made = random_flow(seed, 8 + seed % 50)
            many = len(made[2])
            cells = len(memory_of(made))
            for _ in range(4):
                seeds = tuple(sorted(rng.sample(range(many), rng.choice([0, 1, 2]))))
                some = tuple(sorted(rng.sample(range(cells), min(cells, rng.choice([0, 1, 2])))))
                for lasts in (False, True):
                    wanted = tuple(at for at, _ in slow_touched(made, seeds, some, 7, lasts))
                    self.assertEqual(touched(made, seeds, some, 7, lasts=lasts), wanted)
                self.assertEqual(touched(made, seeds, some, 7),
                                 tuple(at for at, _ in slow_touched(made, seeds, some, 7, False)))

    def test_a_run_with_wrong_values(self):
        """What is not touched has just what it has without the fault."""
        rng = random.Random(56)
        wrong = 0
        for seed in range(100):
            made = random_flow(seed, 8 + seed % 40)
            rows = random_rows(seed, 9)
            start = rng.randrange(4)
            memory = memory_of(made)
            lasts = rng.random() < 0.5
            seeds = tuple(sorted(rng.sample(range(len(made[2])), rng.choice([0, 1, 2]))))
            cells = tuple(sorted(rng.sample(range(len(memory)), min(len(memory), rng.choice([0, 1, 2])))))
            ticks = range(start, 9 if lasts else start + 1)
            nodes = {(node, tick): rng.choice(values_of(made[2][node][1])) for node in seeds for tick in ticks}
            contents = {}
            for cell in cells:
                told = made[2][memory[cell]]
                contents[memory[cell]] = rng.randrange(told[3]) if told[0] == "beat" else rng.choice(values_of(told[1]))
            right, other = FlowOracle(made, rows), WrongRun(made, rows, start, nodes, contents)
            told = touched(made, seeds, cells, 9 - start, lasts=lasts)
            for tick in range(9):
                held = told[tick - start] if tick >= start else ()
                for node in range(len(made[2])):
                    if node not in held:
                        self.assertEqual(right.value(node, tick), other.value(node, tick), (seed, node, tick))
                    else:
                        wrong += right.value(node, tick) != other.value(node, tick)
        self.assertGreater(wrong, 300)

    def test_long_faults(self):
        nodes = [("delay", NUM, (), 0, (at + 1) % 7, ()) for at in range(7)] + [("const", NUM, (), 0)]
        told = touched(flow(*nodes), (), (3,), 1000)
        self.assertEqual([each for each in told], [((3 - tick) % 7,) for tick in range(1000)])


class Gone(unittest.TestCase):
    def test_by_hand(self):
        made = flow(("input", NUM, (), 0), ("delay", NUM, (), 0, 0, ()), ("delay", NUM, (), 0, 1, ()),
                    ("delay", NUM, (), 0, 2, ()), ("delay", NUM, (), 0, 4, ()), ("beat", BOOL, (), 2, 0),
                    ("pick", NUM, (), 5, 0, 0), ("delay", NUM, (), 0, 6, ()))
        # Cells 0 to 2 are in a row, cell 3 keeps itself, cell 4 is the beat's, cell 5 looks at it.
        for cells, wanted in (((), 0), ((0,), 3), ((1,), 2), ((2,), 1), ((0, 2), 3), ((5,), 1), ((1, 5), 2), ((3,), None),
                              ((4,), None), ((0, 3), None)):
            self.assertEqual(gone(made, cells), wanted, cells)
        self.assertEqual(gone(flow(("input", NUM, (), 0)), ()), 0)

    def test_sampled_delays(self):
        # A delay that is not always there may never take another content.
        made = flow(("const", BOOL, (), 1), ("const", NUM, ((0, 1),), 1), ("delay", NUM, ((0, 1),), 0, 1, ()))
        self.assertIsNone(gone(made, (0,)))

    def test_rings(self):
        for many in (1, 2, 5):
            nodes = [("delay", NUM, (), 0, (at + 1) % many, ()) for at in range(many)]
            self.assertIsNone(gone(flow(*nodes), (0,)))

    def test_random_flows(self):
        rng = random.Random(57)
        counts = {}
        for seed in range(400):
            made = random_flow(seed, 8 + seed % 30)
            cells = len(memory_of(made))
            some = tuple(sorted(rng.sample(range(cells), min(cells, rng.choice([0, 1, 1, 2])))))
            told = gone(made, some)
            behind = [some] + [wrong for _, wrong in slow_touched(made, (), some, cells + 2, False)]
            wanted = behind.index(()) if () in behind else None
            self.assertEqual(told, wanted)
            counts[told] = counts.get(told, 0) + 1
        self.assertTrue(all(counts.get(each, 0) > 2 for each in (0, 1, 2, None)), counts)

    def test_long_chains(self):
        nodes = [("input", NUM, (), 0)] + [("delay", NUM, (), 0, at, ()) for at in range(1999)]
        made = flow(*nodes)
        self.assertEqual(gone(made, (0,)), 1999)
        self.assertEqual(gone(made, (1990,)), 9)
        nodes[1] = ("delay", NUM, (), 0, 1999, ())
        self.assertIsNone(gone(flow(*nodes), (5,)))


class LostFrames(unittest.TestCase):
    def test_what_hangs_on_no_lost_frame(self):
        """The nodes of all lost frames are seeds, from the first tick on for which something was not told."""
        rng = random.Random(58)
        same = other = 0
        for seed, made, split, bus, lags in cases(600, 70):
            rows = random_rows(seed, 10)
            losses = some_losses(rng, made, split, 10, 0.05)
            told = {}
            _, _, starts, spans, frames = bus
            for time, node in losses:
                p = split[node]
                late = dict(frames)[node] < starts[p] + spans[p]
                early = made[2][node][0] == "delay" and made[2][node][2] == () and made[2][node][5] == ()
                tick = time - lags[p] - late
                if tick >= 0:
                    told[time, node] = tick + early
            if not told:
                continue
            first = min(told.values())
            held = touched(made, tuple(sorted({node for _, node in told})), (), 12, lasts=True)
            whole = list(SplitRun(made, split, bus, lags).ticks(rows))
            lossy = list(LossyRun(made, split, bus, lags, losses).ticks(rows))
            for at, (_, node) in enumerate(made[3] + made[4] + made[5]):
                for time in range(10):
                    tick = time - lags[split[node]]
                    if tick < first or node not in held[tick - first]:
                        same += 1
                        self.assertEqual(whole[time][at], lossy[time][at])
                    else:
                        other += whole[time][at] != lossy[time][at]
        self.assertTrue(same > 1000 and other > 50, (same, other))


if __name__ == "__main__":
    unittest.main()
