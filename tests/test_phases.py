"""Periods, bills of the phases and accounts: [39], [40]."""

import random
import unittest

from keepsgoing.bills import bill
from keepsgoing.flowruns import FlowRun
from keepsgoing.flows import is_flow, memory_of
from keepsgoing.imageof import image_of
from keepsgoing.images import is_image
from keepsgoing.kinds import has
from keepsgoing.machine import Machine
from keepsgoing.orders import order_of
from keepsgoing.phases import account, period, phase_bills
from keepsgoing.seats import seats_of
from tests.randomflows import random_flow, random_rows

BOOL = ("bool",)
NUM = ("num", 0, 5, 1, "wrap")
PUT = ("put", 0, 7)


def beats(*told):
    """A flow with beats alone, with the clock `()`."""
    made = ("flow", (), tuple(("beat", BOOL, (), n, k) for n, k in told) or (("const", BOOL, (), 1),),
            (("o", 0),), (), ())
    assert is_flow(made)
    return made


def with_code(*code):
    made = ("image", (0, 0), 0, (), (), code)
    assert is_image(made)
    return made


def unless(node, many, value=1):
    return ("unless", 0, value, many, node)


def slow_bill(flow, code, phase):
    """By the words: each unless with a beat as its remark goes on as it does at the phase."""
    memo = {len(code): 0}

    def most(at):
        if at not in memo:
            step = code[at]
            ways = [at + 1]
            if step[0] == "skip":
                ways = [at + 1 + step[1]]
            elif step[0] == "unless":
                ways = [at + 1, at + 1 + step[3]]
                node = step[4]
                if node is not None and 0 <= node < len(flow[2]):
                    word, _, clock, *rest = flow[2][node]
                    if word == "beat" and clock == ():
                        ways = [ways[0] if int(phase % rest[0] == rest[1]) == step[2] else ways[1]]
            memo[at] = 1 + max(most(each) for each in ways)
        return memo[at]
    return most(0)


def slow_period(flow):
    told = [node[3] for node in flow[2] if node[0] == "beat" and node[2] == ()]
    return next(many for many in range(1, 30000) if all(many % n == 0 for n in told))


def beating_flow(seed):
    """A flow with several beats on the clock `()`, and what hangs on them."""
    rng = random.Random(seed)
    nodes = [("input", NUM, (), 0)]
    for n, k in ((2, 0), (3, 2), (4, 1), (3, 0), (1, 0), (rng.randint(1, 6), 0)):
        at = len(nodes)
        clock = ((at, rng.choice([0, 1])),)
        nodes += [("beat", BOOL, (), n, k), ("when", NUM, clock, 0), ("delay", NUM, clock, 3, at + 1, ()),
                  ("add", NUM, clock, at + 1, at + 2), ("beat", BOOL, clock, rng.randint(1, 5), 0)]
        inner = clock + ((at + 4, 1),)
        nodes += [("when", NUM, inner, at + 3), ("delay", BOOL, clock, 0, at + 4, (at,)),
                  ("delay", NUM, (), 2, 0, (at,))]
    outputs = tuple((f"o{at}", at) for at in range(len(nodes)))
    made = ("flow", (("x", NUM, 0),), tuple(nodes), outputs, (), ())
    assert is_flow(made)
    return made


def imaged(flow):
    order = order_of(flow)
    return image_of(flow, order, seats_of(flow, order))


class Periods(unittest.TestCase):
    def test_period(self):
        self.assertEqual(period(beats()), 1)
        self.assertEqual(period(beats((1, 0))), 1)
        self.assertEqual(period(beats((5, 2))), 5)
        self.assertEqual(period(beats((4, 2), (6, 1))), 12)
        self.assertEqual(period(beats((4, 2), (4, 1), (2, 0))), 4)
        self.assertEqual(period(beats((12, 0), (11, 0), (9, 0), (8, 0), (7, 0), (5, 0))), 27720)

    def test_other_clocks_do_not_count(self):
        made = ("flow", (), (("beat", BOOL, (), 3, 0), ("beat", BOOL, ((0, 1),), 5, 0)), (("o", 0),), (), ())
        self.assertEqual(period(made), 3)
        self.assertEqual(len(phase_bills(made, with_code(unless(1, 1), PUT))), 3)

    def test_random_flows(self):
        for seed in range(40):
            flow = random_flow(seed, 20 + seed)
            self.assertEqual(period(flow), slow_period(flow))


class Bills(unittest.TestCase):
    def check(self, flow, code, wanted):
        self.assertEqual(phase_bills(flow, with_code(*code)), wanted)
        self.assertEqual(tuple(slow_bill(flow, code, p) for p in range(period(flow))), wanted)

    def test_no_beats(self):
        self.check(beats(), (unless(0, 1), PUT, unless(None, 1), PUT), (4,))
        self.check(beats(), (), (0,))
        self.check(beats((3, 1)), (), (0, 0, 0))

    def test_one_beat(self):
        self.check(beats((3, 1)), (unless(0, 2), PUT, PUT), (1, 3, 1))
        self.check(beats((3, 1)), (unless(0, 2, 0), PUT, PUT), (3, 1, 3))
        # No beat has another value than 0 and 1.
        self.check(beats((3, 1)), (unless(0, 2, 2), PUT, PUT), (1, 1, 1))
        self.check(beats((3, 1)), (unless(0, 2, -1), PUT, PUT), (1, 1, 1))
        self.check(beats((1, 0)), (unless(0, 2), PUT, PUT), (3,))

    def test_other_remarks(self):
        made = ("flow", (), (("beat", BOOL, (), 2, 0), ("beat", BOOL, ((0, 1),), 2, 0), ("const", BOOL, (), 0)),
                (("o", 0),), (), ())
        for remark in (1, 2, 3, -1, -3, None, 1000000):
            self.check(made, (unless(remark, 2), PUT, PUT), (3, 3))
        self.check(made, (unless(0, 2), PUT, PUT), (3, 1))

    def test_several_beats(self):
        # The arm that passes over is dearer for the second beat.
        flow = beats((2, 0), (3, 1))
        self.check(flow, (unless(0, 1), PUT, unless(1, 1), ("skip", 3), PUT, PUT, PUT), (6, 3, 6, 5, 4, 5))
        # One within the other.
        self.check(flow, (unless(0, 2), unless(1, 1), PUT, PUT), (3, 2, 3, 2, 4, 2))
        # Two looks at one beat that cannot both go on.
        self.check(beats((2, 0)), (unless(0, 1, 0), PUT, unless(0, 1, 1), PUT), (3, 3))
        self.assertEqual(bill((unless(0, 1, 0), PUT, unless(0, 1, 1), PUT)), 4)

    def test_free_ways_around(self):
        """A free unless that passes over one with a beat, and one that leads into its middle."""
        flow = beats((2, 1), (3, 0))
        self.check(flow, (unless(None, 2), unless(0, 4), PUT, PUT, unless(1, 1), PUT, PUT), (5, 6, 4, 7, 4, 6))
        self.check(flow, (unless(7, 3), unless(0, 1), ("skip", 2), PUT, PUT, unless(1, 0)), (5, 4, 5, 4, 5, 4))

    def test_random_codes(self):
        rng = random.Random(39)
        flow = beats((2, 1), (3, 0), (4, 2), (4, 3), (1, 0))
        for many in list(range(1, 30)) * 6:
            code = []
            for at in range(many):
                left = min(many - at - 1, rng.randrange(7))
                code.append(rng.choice([PUT, ("skip", left), unless(rng.randrange(-1, 7), left, rng.choice([0, 1])),
                                        unless(rng.randrange(5), left, rng.choice([0, 1]))]))
            told = phase_bills(flow, with_code(*code))
            self.assertEqual(told, tuple(slow_bill(flow, code, p) for p in range(12)))
            self.assertLessEqual(max(told), bill(tuple(code)))

    def test_long_periods(self):
        flow = beats((12, 0), (11, 3), (9, 8), (8, 1), (7, 2), (5, 4))
        code = []
        for node in range(6):
            code += [unless(node, node + 1)] + [PUT] * (node + 1)
        code = tuple(code) * 40
        told = phase_bills(flow, with_code(*code))
        self.assertEqual(len(told), 27720)
        for phase in (0, 3, 8, 11, 4, 27719, 13860, 5040):
            wanted = 40 * sum(1 + (node + 1) * (phase % n == k)
                              for node, (_, _, _, n, k) in enumerate(flow[2]))
            self.assertEqual(told[phase], wanted)

    def test_images_of_flows(self):
        for seed in range(12):
            flow = beating_flow(seed)
            made = imaged(flow)
            told = phase_bills(flow, made)
            self.assertEqual(told, tuple(slow_bill(flow, made[5], p) for p in range(slow_period(flow))))
            self.assertGreater(bill(made[5]), max(told))
            self.assertGreater(max(told), min(told))


class Ticks(unittest.TestCase):
    def test_each_tick_against_its_phase(self):
        rng = random.Random(1)
        for seed in range(12):
            flow = beating_flow(seed)
            made = imaged(flow)
            told = phase_bills(flow, made)
            machine = Machine(made)
            run = FlowRun(flow)
            for tick in range(3 * len(told)):
                machine.spoil([rng.choice([0, 1, 5]) for _ in range(len(made[1]) - made[2])])
                row = (rng.randrange(6),)
                self.assertEqual(machine.tick(row), run.tick(row))
                self.assertLessEqual(machine.steps, told[tick % len(told)], (seed, tick))

    def test_some_ticks_are_as_dear(self):
        """With beats on the clock `()` alone each tick goes just the way of its phase."""
        nodes = [("input", NUM, (), 0)]
        for n, k in ((2, 1), (3, 0), (5, 4)):
            nodes += [("beat", BOOL, (), n, k), ("when", NUM, ((len(nodes), 1),), 0)]
        flow = ("flow", (("x", NUM, 0),), tuple(nodes), (("o", 2), ("p", 4), ("q", 6)), (), ())
        made = imaged(flow)
        told = phase_bills(flow, made)
        machine = Machine(made)
        for tick in range(60):
            machine.tick((3,))
            self.assertEqual(machine.steps, told[tick % 30])


class Accounts(unittest.TestCase):
    def test_account(self):
        for seed in range(12):
            flow = random_flow(seed, 20) if seed % 2 else beating_flow(seed)
            made = imaged(flow)
            self.assertEqual(account(flow, made), (len(made[1]), made[2], bill(made[5]), phase_bills(flow, made)))
            machine = Machine(made)
            self.assertEqual(account(flow, made)[:2], (len(machine.cells), len(machine.state)))
        self.assertEqual(account(beats((2, 0)), ("image", (0, 0, 5), 1, (), (), (unless(0, 1), PUT))),
                         (3, 1, 2, (2, 1)))

    def test_steps_and_total(self):
        flow = beating_flow(3)
        machine = Machine(imaged(flow))
        total = 0
        for row in [(n % 6,) for n in range(50)]:
            machine.tick(row)
            total += machine.steps
            self.assertGreater(machine.steps, 0)
            self.assertEqual(machine.total, total)

    def test_the_state_is_all_that_counts(self):
        """A machine is stopped between any two ticks; another one goes on from its state."""
        rng = random.Random(2)
        for seed in range(20):
            flow = random_flow(seed, 14 + seed) if seed % 2 else beating_flow(seed)
            rows = random_rows(seed, 12) if seed % 2 else [(rng.randrange(6),) for _ in range(12)]
            made = imaged(flow)
            machine = Machine(made)
            states = []
            shown = []
            for row in rows:
                states.append(machine.state)
                shown.append(machine.tick(row))
            for at, state in enumerate(states):
                other = Machine(made)
                other.tick(rows[0])
                other.spoil([rng.choice([0, 1, -7]) for _ in range(len(made[1]) - made[2])])
                other.state = state
                self.assertEqual(list(other.ticks(rows[at:])), shown[at:])

    def test_kept_cells_have_values_of_their_kinds(self):
        rng = random.Random(3)
        for seed in range(40):
            flow = random_flow(seed, 12 + seed) if seed % 2 else beating_flow(seed)
            rows = random_rows(seed, 10) if seed % 2 else [(rng.randrange(6),) for _ in range(10)]
            made = imaged(flow)
            machine = Machine(made)
            for at, row in enumerate(rows):
                if at == 5:
                    machine.state = self.flat_state(flow, rng)
                machine.spoil([rng.choice([0, 1, -7, 10 ** 20]) for _ in range(len(made[1]) - made[2])])
                machine.tick(row)
                self.check_kept(flow, machine.state)

    def flat_state(self, flow, rng):
        """A state of any values of their kinds, not only of those that are reached."""
        found = []
        for node in memory_of(flow):
            told = flow[2][node]
            if told[0] == "beat":
                found.append(rng.randrange(told[3]))
            elif told[1][0] == "row":
                found.extend(rng.randrange(2) for _ in range(told[1][2]))
            else:
                low, high = (told[1][1], told[1][2]) if told[1][0] == "num" else (
                    0, 1 if told[1] == BOOL else len(told[1][1]) - 1)
                found.append(rng.randint(low, high))
        return tuple(found)

    def check_kept(self, flow, state):
        left = list(state)
        for node in memory_of(flow):
            told = flow[2][node]
            if told[0] == "beat":
                self.assertIn(left.pop(0), range(told[3]))
            elif told[1][0] == "row":
                size = told[1][2]
                self.assertTrue(has(told[1], tuple(left[:size])))
                del left[:size]
            else:
                self.assertTrue(has(told[1], left.pop(0)))
        self.assertEqual(left, [])


if __name__ == "__main__":
    unittest.main()
