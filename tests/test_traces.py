import random
import unittest

from keepsgoing.flows import is_flow
from keepsgoing.kinds import has, values_of
from keepsgoing.ops import result
from keepsgoing.traces import blame, trace_of
from tests.randomflows import FlowOracle, random_flow, random_rows

BOOL = ("bool",)
NUM = ("num", 0, 5, 1, "wrap")


class SlowBlame:
    """The blame by the words of [30]; contents are found by a look at all ticks before."""

    def __init__(self, flow, rows, trace):
        self.nodes = flow[2]
        self.rows = rows
        self.trace = trace

    def told(self):
        for tick in range(len(self.rows)):
            for node in range(len(self.nodes)):
                if self.is_wrong(tick, node):
                    return (tick, node)
        return None

    def there(self, tick, node):
        return all(self.trace[tick][each] == value for each, value in self.nodes[node][2])

    def content(self, tick, node):
        told = self.nodes[node]
        before = [t for t in range(tick) if self.there(t, node)]
        if told[0] == "beat":
            return len(before) % told[3]
        for t in range(tick, -1, -1):
            if t < tick and self.there(t, node):
                return self.trace[t][told[4]]
            if any(self.trace[t][reset] == 1 for reset in told[5]):
                return told[3]
        return told[3]

    def is_wrong(self, tick, node):
        entries = self.trace[tick]
        if not self.there(tick, node):
            return entries[node] is not None
        word, kind, _, *rest = self.nodes[node]
        if word == "input":
            value = self.rows[tick][rest[0]]
        elif word == "here":
            value = int(self.rows[tick][rest[0]] is not None)
        elif word == "const":
            value = rest[0]
        elif word == "when":
            value = entries[rest[0]]
        elif word == "merge":
            value = None if entries[rest[0]] is None else entries[rest[1][entries[rest[0]]]]
        elif word == "delay":
            value = self.content(tick, node)
        elif word == "beat":
            value = int(self.content(tick, node) == rest[1])
        elif any(entries[a] is None for a in rest):
            value = None
        else:
            kinds = tuple(self.nodes[a][1] for a in rest)
            value = result(word, kinds, tuple(entries[a] for a in rest), kind)
        return value is None or entries[node] != value


def flow(inputs, *nodes):
    made = ("flow", inputs, nodes, (), (), ())
    assert is_flow(made)
    return made


class Traces(unittest.TestCase):
    def test_by_hand(self):
        made = flow((("x", BOOL, 0), ("e", NUM, 1)), ("input", BOOL, (), 0), ("here", BOOL, (), 1),
                    ("input", NUM, ((1, 1),), 1), ("delay", NUM, ((1, 1),), 4, 2, (0,)),
                    ("beat", BOOL, (), 2, 1))
        rows = ((0, 3), (0, None), (0, 2), (1, None), (0, 5))
        self.assertEqual(trace_of(made, rows), (
            (0, 1, 3, 4, 0), (0, 0, None, None, 1), (0, 1, 2, 3, 0), (1, 0, None, None, 1),
            (0, 1, 5, 4, 0)))
        self.assertEqual(trace_of(made, ()), ())

    def test_random_flows(self):
        for seed in range(40):
            made = random_flow(seed, 12 + seed)
            rows = tuple(random_rows(seed, 8))
            oracle = FlowOracle(made, rows)
            trace = trace_of(made, rows)
            self.assertEqual(trace, tuple(oracle.entries(tick) for tick in range(8)))
            self.assertIsNone(blame(made, rows, trace))


class Blames(unittest.TestCase):
    def blames(self, made, rows, changes, wanted):
        """The blame of the trace of the rows with some entries exchanged."""
        trace = [list(entries) for entries in trace_of(made, rows)]
        for (tick, node), entry in changes.items():
            trace[tick][node] = entry
        told = tuple(tuple(entries) for entries in trace)
        self.assertEqual(blame(made, rows, told), wanted)
        self.assertEqual(SlowBlame(made, rows, told).told(), wanted)

    def test_inputs(self):
        made = flow((("x", BOOL, 0), ("e", BOOL, 1), ("l", BOOL, 2)), ("input", BOOL, (), 0),
                    ("here", BOOL, (), 1), ("input", BOOL, ((1, 1),), 1), ("input", BOOL, ((0, 1),), 2))
        rows = ((1, None, 0), (0, 1, 1))
        self.blames(made, rows, {(0, 0): 0}, (0, 0))
        self.blames(made, rows, {(0, 0): None}, (0, 0))
        self.blames(made, rows, {(0, 1): 1}, (0, 1))
        self.blames(made, rows, {(1, 1): 0}, (1, 1))
        self.blames(made, rows, {(1, 1): None}, (1, 1))
        self.blames(made, rows, {(0, 2): 0}, (0, 2))
        self.blames(made, rows, {(1, 2): 0}, (1, 2))
        self.blames(made, rows, {(1, 2): None}, (1, 2))
        self.blames(made, rows, {(0, 3): None}, (0, 3))
        self.blames(made, rows, {(1, 3): 1}, (1, 3))

    def test_an_input_that_would_look_at_none(self):
        # The event does not come, but the node ahead says so: the input has a smaller number.
        made = flow((("e", BOOL, 1),), ("input", BOOL, ((1, 1),), 0), ("here", BOOL, (), 0))
        for entry in (None, 0, 1):
            self.blames(made, ((None,),), {(0, 1): 1, (0, 0): entry}, (0, 0))

    def test_operations_that_would_look_at_none(self):
        made = flow((("x", BOOL, 0),), ("and", BOOL, (), 1, 2), ("not", BOOL, (), 2), ("input", BOOL, (), 0),
                    ("or", BOOL, (), 1, 2))
        for entry in (None, 0, 1):
            self.blames(made, ((1,),), {(0, 1): None, (0, 0): entry}, (0, 0))
            self.blames(made, ((1,),), {(0, 2): None, (0, 0): entry}, (0, 0))
        made = flow((("x", BOOL, 0),), ("pick", BOOL, (), 2, 2, 1), ("not", BOOL, (), 2), ("input", BOOL, (), 0))
        # It looks at all its operands, also at one that it does not pick.
        self.blames(made, ((1,),), {(0, 1): None}, (0, 0))

    def test_whens_and_merges(self):
        made = flow((("x", BOOL, 0),), ("merge", NUM, (), 4, (1, 2)), ("const", NUM, ((4, 0),), 3),
                    ("when", NUM, ((4, 1),), 3), ("const", NUM, (), 5), ("input", BOOL, (), 0))
        rows = ((0,), (1,))
        self.blames(made, rows, {(0, 0): 5}, (0, 0))
        self.blames(made, rows, {(0, 1): 2}, (0, 0))
        self.blames(made, rows, {(0, 1): 2, (0, 0): 2}, (0, 1))
        for entry in (None, 0, 3):
            self.blames(made, rows, {(0, 1): None, (0, 0): entry}, (0, 0))
            self.blames(made, rows, {(0, 4): None, (0, 0): entry}, (0, 0))
            self.blames(made, rows, {(1, 3): None, (1, 2): entry, (1, 0): entry},
                        (1, 0) if entry is None else (1, 2))
        made = flow((("x", BOOL, 0),), ("when", BOOL, ((1, 1),), 2), ("input", BOOL, (), 0), ("not", BOOL, (), 1))
        for entry in (None, 0, 1):
            self.blames(made, ((1,),), {(0, 2): None, (0, 0): entry}, (0, 0))
        made = flow((("x", BOOL, 0),), ("merge", NUM, (), 4, (1, 2)), ("const", NUM, ((4, 0),), 3),
                    ("when", NUM, ((4, 1),), 3), ("const", NUM, (), 5), ("input", BOOL, (), 0))
        # The arm that is not taken does not count.
        self.blames(made, rows, {(0, 2): 5}, (0, 2))

    def test_delays_and_resets(self):
        made = flow((("x", BOOL, 0), ("n", NUM, 0)), ("delay", NUM, (), 4, 2, (1,)), ("input", BOOL, (), 0),
                    ("input", NUM, (), 1))
        rows = ((0, 1), (0, 2), (1, 3), (0, 5))
        self.blames(made, rows, {(0, 0): 0}, (0, 0))
        self.blames(made, rows, {(0, 0): None}, (0, 0))
        self.blames(made, rows, {(1, 0): 2}, (1, 0))
        self.blames(made, rows, {(2, 0): 2}, (2, 0))
        self.blames(made, rows, {(3, 0): 4}, (3, 0))
        # The reset counts by its entry: node 0 is right with 4, so the reset is blamed.
        self.blames(made, rows, {(1, 1): 1}, (1, 0))
        self.blames(made, rows, {(1, 1): 1, (1, 0): 4}, (1, 1))
        # The content comes from the entries of the trace: a wrong one is blamed where it stands.
        self.blames(made, rows, {(0, 2): 0, (1, 0): 0}, (0, 2))

    def test_slow_delays_and_beats(self):
        clock = ((0, 1),)
        made = flow((("x", BOOL, 0), ("y", BOOL, 0)), ("input", BOOL, (), 0), ("input", BOOL, (), 1),
                    ("when", BOOL, clock, 1), ("delay", BOOL, clock, 0, 2, (1,)), ("beat", BOOL, clock, 3, 1),
                    ("beat", BOOL, (), 2, 0))
        rows = ((1, 0), (0, 0), (1, 0), (1, 1), (0, 1), (1, 0))
        self.blames(made, rows, {}, None)
        self.blames(made, rows, {(1, 4): 0}, (1, 4))
        self.blames(made, rows, {(2, 4): 0}, (2, 4))
        self.blames(made, rows, {(3, 4): 1}, (3, 4))
        self.blames(made, rows, {(3, 3): 1}, (3, 3))
        # It was emptied when it was not there.
        self.blames(made, rows, {(5, 3): 1}, (5, 3))
        self.blames(made, rows, {(4, 3): 0}, (4, 3))
        self.blames(made, rows, {(1, 5): 1}, (1, 5))

    def test_first_tick_and_first_node(self):
        made = flow((("x", BOOL, 0),), ("input", BOOL, (), 0), ("not", BOOL, (), 0))
        rows = ((0,), (1,), (0,))
        self.blames(made, rows, {(2, 0): 1, (1, 1): 1}, (1, 1))
        self.blames(made, rows, {(1, 0): 0, (1, 1): 1}, (1, 0))
        # Both are wrong: node 1 by node 0, which is blamed first.
        self.blames(made, rows, {(1, 0): 0}, (1, 0))

    def test_random_changes(self):
        rng = random.Random(8)
        for seed in range(50):
            made = random_flow(seed, 12 + seed % 25)
            rows = tuple(random_rows(seed, 6))
            right = trace_of(made, rows)
            for _ in range(8):
                trace = [list(entries) for entries in right]
                for _ in range(rng.choice([1, 1, 2, 5])):
                    tick, node = rng.randrange(6), rng.randrange(len(made[2]))
                    trace[tick][node] = rng.choice((None,) + values_of(made[2][node][1]))
                told = tuple(tuple(entries) for entries in trace)
                got = blame(made, rows, told)
                self.assertEqual(got, SlowBlame(made, rows, told).told())
                self.assertIs(got is None, told == right)

    def test_the_trace_of_other_rows(self):
        for seed in range(20):
            made = random_flow(seed, 25)
            rows, other = tuple(random_rows(seed, 6)), tuple(random_rows(seed + 50, 6))
            trace = trace_of(made, other)
            told = blame(made, rows, trace)
            self.assertEqual(told is None, trace == trace_of(made, rows))
            self.assertEqual(told, SlowBlame(made, rows, trace).told())

    def test_entries_are_of_their_kinds(self):
        made = random_flow(4, 30)
        for entries in trace_of(made, tuple(random_rows(4, 6))):
            for node, entry in zip(made[2], entries):
                self.assertTrue(entry is None or has(node[1], entry))


if __name__ == "__main__":
    unittest.main()
