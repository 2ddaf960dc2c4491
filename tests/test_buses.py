"""Buses and lags: [42], [43], [46]."""

import itertools
import random
import unittest

from keepsgoing.buses import frame_ticks, judge_bus, plain_bus
from keepsgoing.errors import GoingError, NoLags, TooLarge
from keepsgoing.flows import is_flow
from keepsgoing.lags import judge_lags, least_lags
from tests.randomflows import random_flow
from tests.randomsplits import (random_bus, random_split, slow_crossing, slow_foreign, slow_lags, slow_rings,
                                slow_ticks)

BOOL = ("bool",)
NUM = ("num", 0, 5, 1, "wrap")


def flow(*nodes):
    made = ("flow", (("x", NUM, 0),), nodes, (("o", len(nodes) - 1),), (), ())
    assert is_flow(made)
    return made


# Node 1 goes from controller 0 to 1, node 3 (early) and node 4 from 1 to 0.
FLOW = flow(("input", NUM, (), 0), ("neg", NUM, (), 0), ("add", NUM, (), 1, 0), ("delay", NUM, (), 2, 2, ()),
            ("neg", NUM, (), 3), ("add", NUM, (), 3, 4), ("const", NUM, (), 1))
SPLIT = (1, 0, 1, 1, 1, 0, 1)
CROSSING = (0, 1, 3, 4)
BUS = ("bus", 9, (0, 2), (2, 3), ((0, 8), (1, 5), (3, 6), (4, 7)))


def changed(at, part):
    return BUS[:at] + (part,) + BUS[at + 1:]


class Judge(unittest.TestCase):
    def judge(self, bus, wanted):
        self.assertIs(judge_bus(FLOW, SPLIT, bus), wanted, bus)

    def test_taken(self):
        self.assertEqual(slow_crossing(FLOW, SPLIT), CROSSING)
        self.judge(BUS, True)
        self.judge(changed(4, ((0, 0), (1, 1), (3, 2), (4, 3))), True)
        self.judge(changed(1, 60), True)
        self.judge(("bus", 60, (59, 0), (1, 60), ((0, 59), (1, 58), (3, 0), (4, 57))), True)

    def test_slots(self):
        for slots in (0, -1, 61, 8, 4, 1000000, None, "", "9"):
            self.judge(changed(1, slots), False)
        # As few as the frames and the work need.
        self.judge(("bus", 4, (0, 1), (1, 3), ((0, 0), (1, 1), (3, 2), (4, 3))), True)
        self.judge(("bus", 3, (0, 1), (1, 2), ((0, 0), (1, 1), (3, 2), (4, 3))), False)

    def test_starts_and_spans(self):
        for starts in ((), (0,), (0, 2, 4), (-1, 2), (0, 7), (8, 2), (None, 2), (0, "")):
            self.judge(changed(2, starts), False)
        for spans in ((), (2,), (2, 3, 1), (0, 3), (2, 8), (-1, 3), (2, 0), (10, 3), (2, None)):
            self.judge(changed(3, spans), False)
        self.judge(changed(2, (7, 6)), True)
        self.judge(changed(3, (9, 7)), True)
        self.judge(changed(3, (10, 7)), False)

    def test_frames(self):
        for frames in (
                (), BUS[4][:3], BUS[4] + ((5, 0),), BUS[4] + ((4, 0),), BUS[4][::-1],
                ((0, 8), (1, 5), (3, 6), (5, 7)), ((0, 8), (1, 5), (2, 6), (4, 7)), ((0, 8), (0, 5), (3, 6), (4, 7)),
                ((0, 8), (1, 5), (3, 6), (4, 6)), ((0, 9), (1, 5), (3, 6), (4, 7)), ((0, -1), (1, 5), (3, 6), (4, 7)),
                ((0, 8), (1, 5), (3, 6), (-4, 7)), ((0, 8), (1, 5), (3, 6), (4, None)), ((1, 5), (0, 8), (3, 6), (4, 7))):
            self.judge(changed(4, frames), False)

    def test_words(self):
        for word in ("", "buss", "flow", None, 0):
            self.judge(changed(0, word), False)

    def test_no_frames(self):
        made = flow(("input", NUM, (), 0))
        self.assertIs(judge_bus(made, (0,), ("bus", 1, (0,), (1,), ())), True)
        self.assertIs(judge_bus(made, (0,), ("bus", 1, (0,), (1,), ((0, 0),))), False)

    def test_random_buses(self):
        rng = random.Random(42)
        for seed in range(60):
            made = random_flow(seed, 8 + seed % 25)
            split = random_split(seed, made, 1 + seed % 4)
            bus = random_bus(seed, made, split)
            self.assertIs(judge_bus(made, split, bus), True)
            _, slots, starts, spans, frames = bus
            late = min(slots - start - span for start, span in zip(starts, spans))
            last = max([slot for _, slot in frames] + [0])
            for less in range(slots):
                fits = less <= late and last < slots - less
                self.assertIs(judge_bus(made, split, ("bus", slots - less) + bus[2:]), fits)
            if frames:
                at = rng.randrange(len(frames))
                fewer = frames[:at] + frames[at + 1:]
                self.assertIs(judge_bus(made, split, bus[:4] + (fewer,)), False)


class FrameTicks(unittest.TestCase):
    def test_by_hand(self):
        """Controller 0 works in the slots 2 and 3, controller 1 in 5 and 6; node 3 is early."""
        def told(node, other, slot):
            slots = [each for each in (0, 1, 2, 9, 8, 7) if each != slot]
            frames = tuple((each, slot if each == node else slots.pop()) for each in CROSSING)
            bus = ("bus", 10, (2, 5), (2, 2), frames)
            self.assertIs(judge_bus(FLOW, SPLIT, bus), True)
            return frame_ticks(FLOW, SPLIT, bus, node, other)
        # Node 1 goes from controller 0 to controller 1.
        self.assertEqual([told(1, 1, slot) for slot in range(10)], [1, 1, 1, 1, 0, 1, 1, 1, 1, 1])
        # Node 4 goes from controller 1 to controller 0: behind its work, or in the next round.
        self.assertEqual([told(4, 0, slot) for slot in range(10)], [1, 1, 2, 2, 2, 2, 2, 1, 1, 1])
        # Node 3 goes the same way one tick early.
        self.assertEqual([told(3, 0, slot) for slot in range(10)], [0, 0, 1, 1, 1, 1, 1, 0, 0, 0])

    def test_one_tick_ahead(self):
        # An early node behind its own controller's work and ahead of the other's takes -1.
        made = flow(("input", NUM, (), 0), ("delay", NUM, (), 0, 0, ()), ("neg", NUM, (), 1))
        bus = ("bus", 4, (0, 3), (1, 1), ((1, 1),))
        self.assertIs(judge_bus(made, (0, 0, 1), bus), True)
        self.assertEqual(frame_ticks(made, (0, 0, 1), bus, 1, 1), -1)

    def test_random_buses(self):
        for seed in range(60):
            made = random_flow(seed, 8 + seed % 25)
            split = random_split(seed, made, 1 + seed % 4)
            bus = random_bus(seed, made, split)
            for q in range(max(split) + 1):
                for node in slow_foreign(made, split, q):
                    self.assertEqual(frame_ticks(made, split, bus, node, q), slow_ticks(made, split, bus, node, q))


class PlainBus(unittest.TestCase):
    def test_by_hand(self):
        self.assertEqual(plain_bus(FLOW, SPLIT, (2, 3)), ("bus", 9, (0, 3), (2, 3), ((0, 6), (1, 2), (3, 7), (4, 8))))
        made = flow(("input", NUM, (), 0))
        self.assertEqual(plain_bus(made, (0,), (7,)), ("bus", 7, (0,), (7,), ()))

    def test_is_taken(self):
        rng = random.Random(46)
        for seed in range(60):
            made = random_flow(seed, 8 + seed % 25)
            split = random_split(seed, made, 1 + seed % 4)
            spans = tuple(rng.randint(1, 5) for _ in range(1 + seed % 4))
            bus = plain_bus(made, split, spans)
            self.assertIs(judge_bus(made, split, bus), True)
            _, slots, starts, told, frames = bus
            self.assertEqual(told, spans)
            slot = 0
            for q, span in enumerate(spans):
                self.assertEqual(starts[q], slot)
                slot += span
                for node in slow_crossing(made, split):
                    if split[node] == q:
                        self.assertIn((node, slot), frames)
                        slot += 1
            self.assertEqual(slots, slot)

    def test_more_than_60_slots(self):
        many = 30
        nodes = [("const", NUM, (), 1)] * many + [("neg", NUM, (), at) for at in range(many)]
        split = (0,) * many + (1,) * many
        made = flow(*nodes)
        bus = plain_bus(made, split, (10, 20))
        self.assertEqual(bus[1], 60)
        self.assertIs(judge_bus(made, split, bus), True)
        for spans in ((11, 20), (10, 21), (1, 1000)):
            with self.assertRaises(TooLarge) as caught:
                plain_bus(made, split, spans)
            self.assertEqual(caught.exception.part, "bus")
        self.assertEqual(plain_bus(made, (0,) * 60, (60,))[1], 60)
        with self.assertRaises(TooLarge):
            plain_bus(made, (0,) * 60, (61,))


def wire(*told):
    """A flow with a node for each controller, and a wire from p to q for each pair: early or not."""
    many = 1 + max(max(p, q) for p, q, _ in told)
    nodes = [("const", NUM, (), 1) for _ in range(many)]
    split = list(range(many))
    for p, q, is_early in told:
        nodes.append(("delay", NUM, (), 0, p, ()) if is_early else ("neg", NUM, (), p))
        split.append(p)
        nodes.append(("neg", NUM, (), len(nodes) - 1))
        split.append(q)
    return flow(*nodes), tuple(split)


def told_lags(made, split, bus):
    try:
        return least_lags(made, split, bus)
    except NoLags as error:
        return error.ring


class Lags(unittest.TestCase):
    def test_judge_by_hand(self):
        made, split = wire((0, 1, False))
        bus = ("bus", 4, (0, 0), (1, 1), ((2, 0),))
        self.assertEqual(frame_ticks(made, split, bus, 2, 1), 2)
        self.assertEqual(least_lags(made, split, bus), (0, 2))
        for lags in ((0, 2), (1, 3), (0, 3), (5, 1000000)):
            self.assertIs(judge_lags(made, split, bus, lags), True)
        for lags in ((0, 1), (1, 2), (3, 0), (-1, 2), (0, -2), (-3, -1), (), (0,), (0, 2, 0), (0, None), ("", 2),
                     (-1000000, 1000000)):
            self.assertIs(judge_lags(made, split, bus, lags), False)

    def test_ahead_of_its_controller(self):
        """What takes -1 ticks lets the other controller work one tick ahead."""
        made, split = wire((0, 1, True))
        bus = ("bus", 4, (0, 3), (1, 1), ((2, 1),))
        self.assertEqual(least_lags(made, split, bus), (0, 0))
        self.assertIs(judge_lags(made, split, bus, (1, 0)), True)
        self.assertIs(judge_lags(made, split, bus, (2, 0)), False)
        self.assertIs(judge_lags(made, split, bus, (1000000, 999999)), True)

    def test_rings_by_hand(self):
        made, split = wire((0, 1, False), (1, 0, False))
        self.assertEqual(told_lags(made, split, plain_bus(made, split, (1, 1))), (0, 1))
        made, split = wire((0, 1, True), (1, 0, True))
        bus = plain_bus(made, split, (1, 1))
        self.assertEqual(least_lags(made, split, bus), (0, 0))
        # Both in slots that take two ticks, less one each: two ticks for the ring.
        bus = ("bus", 4, (0, 0), (2, 2), ((2, 0), (4, 1)))
        self.assertEqual(told_lags(made, split, bus), (0, 1))

    def test_the_first_ring(self):
        """The shortest of several rings, then the least tuple that begins with its least one."""
        made, split = wire((2, 1, False), (1, 2, False), (0, 3, False), (3, 0, False), (0, 1, False), (1, 0, True))
        slots = {node: slot for slot, node in enumerate(slow_crossing(made, split))}
        bus = ("bus", 20, (0,) * 4, (9,) * 4, tuple(slots.items()))
        self.assertEqual(told_lags(made, split, bus), (0, 1))
        made, split = wire((2, 1, False), (1, 2, False), (0, 3, False), (3, 0, False))
        bus = ("bus", 20, (0,) * 4, (9,) * 4, tuple((node, at) for at, node in enumerate(slow_crossing(made, split))))
        self.assertEqual(told_lags(made, split, bus), (0, 3))
        made, split = wire((3, 0, False), (0, 2, False), (2, 3, False), (0, 3, False), (3, 2, False), (2, 1, False))
        bus = ("bus", 20, (0,) * 4, (9,) * 4, tuple((node, at) for at, node in enumerate(slow_crossing(made, split))))
        self.assertEqual(told_lags(made, split, bus), (0, 3))
        made, split = wire((3, 0, False), (0, 2, False), (2, 3, False), (2, 1, False))
        bus = ("bus", 20, (0,) * 4, (9,) * 4, tuple((node, at) for at, node in enumerate(slow_crossing(made, split))))
        self.assertEqual(told_lags(made, split, bus), (0, 2, 3))
        made, split = wire((0, 2, False), (2, 1, False), (1, 0, False), (0, 1, True), (1, 2, True), (2, 0, True))
        bus = ("bus", 20, (0,) * 3, (9,) * 3, tuple((node, at) for at, node in enumerate(slow_crossing(made, split))))
        self.assertEqual(told_lags(made, split, bus), (0, 1))
        made, split = wire((0, 1, False), (1, 2, False), (2, 3, False), (3, 0, False))
        bus = ("bus", 20, (0,) * 4, (9,) * 4, tuple((node, at) for at, node in enumerate(slow_crossing(made, split))))
        self.assertEqual(told_lags(made, split, bus), (0, 1, 2, 3))

    def test_the_greatest_of_several_frames_counts(self):
        made, split = wire((0, 1, True), (0, 1, False), (1, 0, True))
        bus = ("bus", 8, (0, 4), (1, 1), ((2, 1), (4, 5), (6, 7)))
        self.assertEqual([frame_ticks(made, split, bus, node, split[node + 1]) for node in (2, 4, 6)], [-1, 1, 0])
        with self.assertRaises(NoLags) as caught:
            least_lags(made, split, bus)
        self.assertEqual(caught.exception.ring, (0, 1))
        self.assertIsInstance(caught.exception, GoingError)

    def test_random_lags(self):
        rng = random.Random(43)
        rings = sizes = taken = 0
        for seed in range(250):
            if seed % 2:
                pairs = [(p, q) for p in range(4) for q in range(4) if p != q]
                made, split = wire(*[pair + (rng.random() < 0.8,) for pair in rng.sample(pairs, rng.randint(2, 6))])
            else:
                made = random_flow(seed, 7 + seed % 9)
                split = random_split(seed, made, 1 + seed % 4)
            bus = random_bus(seed, made, split)
            found = slow_rings(made, split, bus)
            if found:
                rings += 1
                sizes = max(sizes, found[0][0])
                with self.assertRaises(NoLags) as caught:
                    least_lags(made, split, bus)
                self.assertEqual(caught.exception.ring, found[0][1])
                for _ in range(20):
                    lags = tuple(rng.randrange(9) for _ in range(max(split) + 1))
                    self.assertIs(judge_lags(made, split, bus, lags), False)
                continue
            taken += 1
            lags = least_lags(made, split, bus)
            self.assertIs(judge_lags(made, split, bus, lags), True)
            self.assertTrue(slow_lags(made, split, bus, lags))
            for at, lag in enumerate(lags):
                less = lags[:at] + (lag - 1,) + lags[at + 1:]
                self.assertIs(judge_lags(made, split, bus, less), False)
            some = [each for each in itertools.product(range(5), repeat=max(split) + 1)]
            for each in rng.sample(some, min(len(some), 60)):
                fits = slow_lags(made, split, bus, each)
                self.assertIs(judge_lags(made, split, bus, each), fits)
                self.assertTrue(not fits or all(one <= other for one, other in zip(lags, each)))
        self.assertTrue(rings > 30 and sizes > 2 and taken > 30, (rings, sizes, taken))


if __name__ == "__main__":
    unittest.main()
