import unittest

from keepsgoing.flowruns import FlowRun
from keepsgoing.flows import is_flow, is_straight
from tests.randomflows import FlowOracle, random_flow, random_rows

BOOL = ("bool",)
NUM = ("num", 0, 5, 1, "wrap")
MODE = ("mode", ("a", "b", "c"))


def flow(inputs, nodes, *shown):
    made = ("flow", inputs, nodes, tuple((f"o{at}", at) for at in shown), (), ())
    assert is_flow(made) and is_straight(made)
    return made


TOTAL = flow((("x", NUM, 0),), (
    ("input", NUM, (), 0), ("delay", NUM, (), 0, 2, ()), ("add", NUM, (), 0, 1)), 2)

# A delay that is there when x is 1, and reset by y.
SLOW = flow((("x", BOOL, 0), ("y", BOOL, 0), ("n", NUM, 0)), (
    ("input", BOOL, (), 0), ("input", BOOL, (), 1), ("input", NUM, (), 2),
    ("when", NUM, ((0, 1),), 2), ("delay", NUM, ((0, 1),), 5, 3, (1,))), 4)


class Words(unittest.TestCase):
    def shows(self, made, rows, shown):
        self.assertEqual(list(FlowRun(made).ticks(rows)), shown)

    def test_total(self):
        self.shows(TOTAL, [(1,), (2,), (5,), (0,)], [(1,), (3,), (2,), (2,)])

    def test_events(self):
        made = flow((("e", NUM, 1),), (
            ("here", BOOL, (), 0), ("input", NUM, ((0, 1),), 0), ("const", NUM, ((0, 0),), 4),
            ("merge", NUM, (), 0, (2, 1))), 0, 1, 2, 3)
        self.shows(made, [(None,), (0,), (3,)],
                   [(0, None, 4, 4), (1, 0, None, 0), (1, 3, None, 3)])

    def test_loose_inputs_and_samples(self):
        made = flow((("x", BOOL, 0), ("l", NUM, 2), ("m", NUM, 2)), (
            ("input", BOOL, (), 0), ("input", NUM, ((0, 1),), 1), ("input", NUM, (), 2),
            ("when", NUM, ((0, 1),), 2), ("add", NUM, ((0, 1),), 1, 3)), 1, 2, 4)
        self.shows(made, [(0, 1, 2), (1, 1, 2), (1, 5, 3)],
                   [(None, 2, None), (1, 2, 3), (5, 3, 2)])

    def test_merges_of_modes(self):
        made = flow((("m", MODE, 0), ("l", NUM, 2)), (
            ("input", MODE, (), 0), ("const", NUM, ((0, 0),), 5), ("input", NUM, ((0, 1),), 1),
            ("delay", NUM, ((0, 2),), 3, 3, ()), ("merge", NUM, (), 0, (1, 2, 3))), 4)
        self.shows(made, [(0, 1), (1, 1), (2, 1), (1, 4)], [(5,), (1,), (3,), (4,)])

    def test_delays_that_are_not_there(self):
        self.shows(SLOW, [(0, 0, 1), (1, 0, 2), (0, 0, 3), (1, 0, 4), (1, 0, 0)],
                   [(None,), (5,), (None,), (2,), (4,)])

    def test_resets(self):
        self.shows(SLOW, [(1, 0, 1), (1, 0, 2), (1, 1, 3), (1, 0, 4)], [(5,), (1,), (5,), (3,)])

    def test_resets_when_the_delay_is_not_there(self):
        run = FlowRun(SLOW)
        rows = [(1, 0, 1), (1, 0, 2), (0, 1, 3), (0, 0, 3), (1, 0, 4), (1, 0, 0)]
        shown = []
        states = []
        for row in rows:
            shown.append(run.tick(row)[0])
            states.append(run.state)
        self.assertEqual(shown, [5, 1, None, None, 5, 4])
        self.assertEqual(states, [(1,), (2,), (5,), (5,), (4,), (0,)])

    def test_resets_that_are_not_there(self):
        made = flow((("x", BOOL, 0), ("l", BOOL, 2), ("n", NUM, 0)), (
            ("input", BOOL, (), 0), ("input", BOOL, ((0, 1),), 1), ("input", NUM, (), 2),
            ("when", NUM, ((0, 1),), 2), ("delay", NUM, ((0, 1),), 5, 3, (1,))), 4)
        self.shows(made, [(1, 0, 1), (0, 1, 2), (1, 0, 3), (1, 1, 4), (1, 0, 0)],
                   [(5,), (None,), (1,), (5,), (4,)])

    def test_two_resets(self):
        made = flow((("x", BOOL, 0), ("y", BOOL, 0), ("n", NUM, 0)), (
            ("input", BOOL, (), 0), ("input", BOOL, (), 1), ("input", NUM, (), 2),
            ("delay", NUM, (), 5, 2, (0, 1))), 3)
        self.shows(made, [(0, 0, 1), (0, 0, 2), (1, 0, 3), (0, 1, 4), (0, 0, 0)],
                   [(5,), (1,), (5,), (5,), (4,)])

    def test_beats(self):
        made = flow((("x", BOOL, 0),), (
            ("input", BOOL, (), 0), ("beat", BOOL, (), 3, 1), ("beat", BOOL, ((0, 1),), 2, 0),
            ("beat", BOOL, (), 1, 0)), 1, 2, 3)
        run = FlowRun(made)
        self.assertEqual(run.state, (0, 0, 0))
        self.assertEqual([run.tick((x,)) for x in (1, 0, 1, 1, 0)],
                         [(0, 1, 1), (1, None, 1), (0, 0, 1), (0, 1, 1), (1, None, 1)])
        self.assertEqual(run.state, (2, 1, 0))

    def test_operations(self):
        other = ("num", -9, 9, 2, "hold")
        row = ("row", NUM, 2)
        made = flow((("x", NUM, 0), ("y", NUM, 0)), (
            ("input", NUM, (), 0), ("input", NUM, (), 1), ("as", other, (), 0), ("neg", other, (), 2),
            ("row", row, (), 0, 1), ("sum", NUM, (), 4), ("put", row, (), 4, 0, 1),
            ("at", NUM, (), 6, 1), ("div", NUM, (), 1, 0), ("le", BOOL, (), 0, 1)),
            2, 3, 4, 5, 6, 7, 8, 9)
        self.shows(made, [(3, 4), (0, 5), (1, 0)], [
            (6, -6, (3, 4), 1, (3, 4), 4, 1, 1), (0, 0, (0, 5), 5, (5, 5), 5, 5, 1),
            (2, -2, (1, 0), 1, (1, 0), 1, 0, 0)])

    def test_order_of_what_is_shown(self):
        made = ("flow", TOTAL[1] + (("b", BOOL, 0),), TOTAL[2] + (("input", BOOL, (), 1),),
                (("z", 2), ("a", 0)), (("y", 3),), (("b", 3),))
        self.assertTrue(is_flow(made))
        self.assertEqual(FlowRun(made).tick((4, 1)), (4, 4, 1, 1))
        self.assertEqual(FlowRun(TOTAL[:3] + ((), (), ())).tick((4,)), ())


class Whole(unittest.TestCase):
    def test_random_flows(self):
        for seed in range(60):
            made = random_flow(seed, 12 + seed % 30)
            self.assertTrue(is_flow(made))
            rows = random_rows(seed, 9)
            run = FlowRun(made)
            oracle = FlowOracle(made, rows)
            for tick, row in enumerate(rows):
                self.assertEqual(run.state, oracle.state(tick), seed)
                shown = run.tick(row)
                self.assertEqual(run.entries, oracle.entries(tick), seed)
                count = len(made[2])
                told = [node for _, node in made[3] + made[4] + made[5]]
                self.assertEqual(shown, tuple(run.entries[node] for node in told))
                self.assertEqual(shown[:count], run.entries)

    def test_long_chains(self):
        many = 2000
        nodes = [("add", NUM, (), at + 1, at + 1) for at in range(many - 1)]
        nodes.append(("input", NUM, (), 0))
        made = flow((("x", NUM, 0),), tuple(nodes), 0)
        self.assertEqual(FlowRun(made).tick((3,)), ((3 * pow(2, many - 1)) % 6,))


class States(unittest.TestCase):
    def test_entries(self):
        run = FlowRun(TOTAL)
        self.assertEqual(run.entries, ())
        run.tick((4,))
        self.assertEqual(run.entries, (4, 0, 4))
        run.state = (1,)
        self.assertEqual(run.entries, ())
        run.tick((4,))
        self.assertEqual(run.entries, (4, 1, 5))
        run.resume((2,))
        self.assertEqual(run.entries, ())
        slow = FlowRun(SLOW)
        slow.tick((0, 0, 3))
        self.assertEqual(slow.entries, (0, 0, 3, None, None))

    def test_state(self):
        run = FlowRun(TOTAL)
        self.assertEqual(run.state, (0,))
        run.tick((4,))
        self.assertEqual(run.state, (4,))
        run.state = (5,)
        self.assertEqual(run.state, (5,))
        self.assertEqual(run.tick((2,)), (1,))
        self.assertIsNone(run.resume((3,)))
        self.assertEqual(run.state, (3,))
        self.assertEqual(run.tick((2,)), (5,))
        with self.assertRaises(AttributeError):
            run.entries = ()

    def test_state_goes_on(self):
        for seed in range(10):
            made = random_flow(seed, 25)
            rows = random_rows(seed, 12)
            first = FlowRun(made)
            list(first.ticks(rows[:6]))
            second = FlowRun(made)
            second.state = first.state
            self.assertEqual(list(first.ticks(rows[6:])), list(second.ticks(rows[6:])))

    def test_ticks_come_when_they_are_asked_for(self):
        run = FlowRun(TOTAL)
        told = run.ticks([(1,), (2,), (3,)])
        self.assertEqual(run.state, (0,))
        self.assertEqual(next(told), (1,))
        self.assertEqual(run.state, (1,))
        self.assertEqual(run.tick((4,)), (5,))
        self.assertEqual(next(told), (1,))
        self.assertEqual(list(told), [(4,)])
        self.assertEqual(list(run.ticks(())), [])
        self.assertEqual(list(run.ticks(((1,),))), [(5,)])

    def test_trial(self):
        run = FlowRun(TOTAL)
        run.tick((1,))
        with run.trial() as held:
            self.assertIs(held, run)
            held.tick((3,))
            self.assertEqual(run.state, (4,))
        self.assertEqual(run.state, (1,))
        trial = run.trial()
        run.tick((1,))
        with trial as held:
            held.state = (5,)
            with trial:
                run.tick((0,))
                run.state = (3,)
            self.assertEqual(run.state, (5,))
        self.assertEqual(run.state, (2,))

    def test_trial_that_an_error_leaves(self):
        run = FlowRun(TOTAL)
        run.tick((1,))
        with self.assertRaises(KeyError):
            with run.trial() as held:
                held.tick((3,))
                raise KeyError("left")
        self.assertEqual(run.state, (1,))

    def test_trial_that_a_return_leaves(self):
        run = FlowRun(TOTAL)

        def leave():
            with run.trial() as held:
                return held.tick((3,))
        self.assertEqual(leave(), (3,))
        self.assertEqual(run.state, (0,))

    def test_tried(self):
        run = FlowRun(TOTAL)
        run.tick((1,))
        self.assertEqual(run.tried([(1,), (2,)]), ((2,), (4,)))
        self.assertEqual(run.tried(((1,), (2,))), ((2,), (4,)))
        self.assertEqual(run.tried(()), ())
        self.assertEqual(run.state, (1,))
        self.assertEqual(run.tick((1,)), (2,))

    def test_two_runs_by_turns(self):
        made = random_flow(3, 30)
        rows = random_rows(3, 10)
        alone = list(FlowRun(made).ticks(rows))
        one, two = FlowRun(made), FlowRun(made)
        shown = []
        for at, row in enumerate(rows):
            shown.append(one.tick(row))
            two.tick(rows[-1 - at])
            two.state = two.state
        self.assertEqual(shown, alone)


if __name__ == "__main__":
    unittest.main()
