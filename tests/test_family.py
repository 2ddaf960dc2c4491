"""The told family of sayings: [51]."""

import itertools
import random
import unittest

from keepsgoing.deciding import decided
from keepsgoing.errors import TooMany
from keepsgoing.family import family, greatest, surely_kept
from keepsgoing.flows import is_flow
from keepsgoing.kinds import values_of
from keepsgoing.sayings import judge_sayings
from tests.smallflows import Looked, all_rows, every_state, small_flow
from tests.test_sayings import slow_true

BOOL = ("bool",)
NUM = ("num", 0, 5, 1, "wrap")
LOW = ("num", -1, 0, 2, "hold")
MODE = ("mode", ("a", "b", "c"))
ROW = ("row", BOOL, 2)


def flow(inputs, *nodes, assumes=(), keeps=()):
    shown = [tuple((f"{word}{at}", node) for at, node in enumerate(each)) for word, each in
             (("p", assumes), ("q", keeps))]
    made = ("flow", inputs, nodes, (("o", len(nodes) - 1),), shown[0], shown[1])
    assert is_flow(made)
    return made


def delays(*kinds):
    """A flow in which each delay keeps what it has."""
    return flow((), *[("delay", kind, (), values_of(kind)[0], at, ()) for at, kind in enumerate(kinds)])


def slow_family(made):
    """All sayings of the family, put in order."""
    cells = [(at, node[1]) for at, node in enumerate(n for n in made[2] if n[0] in ("delay", "beat"))
             if node[0] == "delay"]
    found = []
    for m, kind in cells:
        if kind[0] == "num":
            for v in range(kind[1], kind[2] + 1):
                found += [("least", m, v), ("most", m, v)]
        if kind[0] == "bool" or kind[0] == "mode":
            found += [("never", m, v) for v in range(2 if kind == BOOL else len(kind[1]))]
        for n, other in cells:
            if m < n and kind == other and kind[0] != "row":
                found.append(("same", m, n))
            if m != n and kind == other == BOOL:
                found += [("if", m, v, n, w) for v in (0, 1) for w in (0, 1)]
    order = ["least", "most", "never", "same", "if"]
    return tuple(sorted(found, key=lambda saying: (order.index(saying[0]), saying[1:])))


def holds(made, part):
    looked = Looked(made)
    if not all(slow_true(saying, looked.start) for saying in part):
        return False
    for state in every_state(made):
        if all(slow_true(saying, state) for saying in part):
            for row in all_rows(made):
                is_let, _, _, after = looked.tick(state, row)
                if is_let and not all(slow_true(saying, after) for saying in part):
                    return False
    return True


def slow_greatest(made):
    """What is false somewhere behind a good state is taken out, again and again."""
    looked = Looked(made)
    part = [saying for saying in slow_family(made) if slow_true(saying, looked.start)]
    while True:
        behind = {looked.after(s, r) for s in every_state(made) if all(slow_true(saying, s) for saying in part)
                  for r in all_rows(made) if looked.tick(s, r)[0]}
        left = [saying for saying in part if all(slow_true(saying, state) for state in behind)]
        if left == part:
            return tuple(part)
        part = left


def slow_surely(made, part):
    looked = Looked(made)
    return not any(looked.tick(s, r)[0] and looked.tick(s, r)[1] for s in every_state(made)
                   if all(slow_true(saying, s) for saying in part) for r in all_rows(made))


class Family(unittest.TestCase):
    def test_by_hand(self):
        self.assertEqual(family(delays(LOW)), (("least", 0, -1), ("least", 0, 0), ("most", 0, -1), ("most", 0, 0)))
        self.assertEqual(family(delays(BOOL)), (("never", 0, 0), ("never", 0, 1)))
        self.assertEqual(family(delays(MODE)), (("never", 0, 0), ("never", 0, 1), ("never", 0, 2)))
        self.assertEqual(family(delays(ROW)), ())
        self.assertEqual(family(delays(ROW, ROW)), ())
        self.assertEqual(family(flow((), ("const", BOOL, (), 1))), ())

    def test_order(self):
        self.assertEqual(family(delays(LOW, BOOL, LOW, BOOL)), (
            ("least", 0, -1), ("least", 0, 0), ("least", 2, -1), ("least", 2, 0),
            ("most", 0, -1), ("most", 0, 0), ("most", 2, -1), ("most", 2, 0),
            ("never", 1, 0), ("never", 1, 1), ("never", 3, 0), ("never", 3, 1),
            ("same", 0, 2), ("same", 1, 3),
            ("if", 1, 0, 3, 0), ("if", 1, 0, 3, 1), ("if", 1, 1, 3, 0), ("if", 1, 1, 3, 1),
            ("if", 3, 0, 1, 0), ("if", 3, 0, 1, 1), ("if", 3, 1, 1, 0), ("if", 3, 1, 1, 1)))
        three = [saying for saying in family(delays(BOOL, BOOL, BOOL)) if saying[0] == "if"]
        self.assertEqual(three[:6], [("if", 0, 0, 1, 0), ("if", 0, 0, 1, 1), ("if", 0, 0, 2, 0), ("if", 0, 0, 2, 1),
                                     ("if", 0, 1, 1, 0), ("if", 0, 1, 1, 1)])
        self.assertEqual(three, sorted(three))
        self.assertEqual(len(three), 24)

    def test_unlike_kinds(self):
        """Only cells of one kind are said to be the same; truths alone stand in an if."""
        other = ("num", -1, 0, 1, "hold")
        self.assertFalse([saying for saying in family(delays(LOW, other, MODE, BOOL)) if saying[0] in ("same", "if")])
        self.assertEqual([saying for saying in family(delays(MODE, MODE)) if saying[0] == "same"], [("same", 0, 1)])
        self.assertFalse([saying for saying in family(delays(MODE, MODE)) if saying[0] == "if"])

    def test_beats(self):
        """Cells of beats have their numbers, but are in no saying."""
        made = flow((), ("beat", BOOL, (), 2, 0), ("delay", BOOL, (), 0, 1, ()), ("beat", BOOL, (), 2, 0),
                    ("delay", BOOL, (), 1, 3, ()))
        self.assertEqual(family(made), (
            ("never", 1, 0), ("never", 1, 1), ("never", 3, 0), ("never", 3, 1), ("same", 1, 3),
            ("if", 1, 0, 3, 0), ("if", 1, 0, 3, 1), ("if", 1, 1, 3, 0), ("if", 1, 1, 3, 1),
            ("if", 3, 0, 1, 0), ("if", 3, 0, 1, 1), ("if", 3, 1, 1, 0), ("if", 3, 1, 1, 1)))

    def test_random_flows(self):
        for seed in range(80):
            made = small_flow(seed, 500)
            self.assertEqual(family(made), slow_family(made))

    def test_large_flows(self):
        """The family asks for neither rows nor states."""
        many = 40
        made = flow(tuple((f"i{at}", BOOL, 0) for at in range(9)),
                    *[("delay", BOOL, (), 0, at, ()) for at in range(many)])
        told = family(made)
        self.assertEqual(len(told), 2 * many + many * (many - 1) // 2 + 4 * many * (many - 1))
        self.assertEqual(told, slow_family(made))
        self.assertEqual(len(family(delays(("num", -1000, 1000, 1, "hold")))), 4002)


class Greatest(unittest.TestCase):
    def test_by_hand(self):
        # A counter up to 3, which then stays.
        nodes = (("delay", NUM, (), 1, 4, ()), ("const", NUM, (), 3), ("const", NUM, (), 1), ("add", NUM, (), 0, 2),
                 ("min", NUM, (), 3, 1))
        self.assertEqual(greatest(flow((), *nodes)), (("least", 0, 0), ("least", 0, 1), ("most", 0, 3), ("most", 0, 4),
                                                      ("most", 0, 5)))
        # Two delays of one bool, one of which begins otherwise, and one of the other truth.
        nodes = (("input", BOOL, (), 0), ("delay", BOOL, (), 0, 0, ()), ("delay", BOOL, (), 0, 0, ()),
                 ("not", BOOL, (), 0), ("delay", BOOL, (), 1, 3, ()))
        self.assertEqual(greatest(flow((("x", BOOL, 0),), *nodes)), (
            ("same", 0, 1), ("if", 0, 0, 1, 0), ("if", 0, 0, 2, 1), ("if", 0, 1, 1, 1), ("if", 0, 1, 2, 0),
            ("if", 1, 0, 0, 0), ("if", 1, 0, 2, 1), ("if", 1, 1, 0, 1), ("if", 1, 1, 2, 0),
            ("if", 2, 0, 0, 1), ("if", 2, 0, 1, 1), ("if", 2, 1, 0, 0), ("if", 2, 1, 1, 0)))

    def test_assumes_help(self):
        nodes = (("input", BOOL, (), 0), ("delay", BOOL, (), 1, 0, ()))
        made = flow((("x", BOOL, 0),), *nodes, assumes=(0,), keeps=(1,))
        self.assertEqual(greatest(made), (("never", 0, 0),))
        self.assertIs(surely_kept(made), True)
        made = flow((("x", BOOL, 0),), *nodes, keeps=(1,))
        self.assertEqual(greatest(made), ())
        self.assertIs(surely_kept(made), False)

    def test_broken_ticks_lead_on(self):
        """For the greatest part it does not count that a tick breaks the contract."""
        nodes = (("delay", BOOL, (), 1, 1, ()), ("const", BOOL, (), 0), ("const", BOOL, (), 0))
        made = flow((), *nodes, keeps=(2,))
        self.assertEqual(greatest(made), ())

    def test_kept_but_not_surely(self):
        """What is reached is told by three counters together, which no saying of the family tells."""
        three = ("num", 0, 2, 1, "wrap")
        nodes = (("delay", three, (), 0, 3, ()), ("delay", three, (), 1, 4, ()), ("const", three, (), 1),
                 ("add", three, (), 0, 2), ("add", three, (), 1, 2), ("ne", BOOL, (), 0, 1))
        made = flow((), *nodes, keeps=(5,))
        self.assertEqual(decided(made, 9)[0], "kept")
        self.assertEqual(greatest(made), (("least", 0, 0), ("least", 1, 0), ("most", 0, 2), ("most", 1, 2)))
        self.assertIs(surely_kept(made), False)

    def test_errors(self):
        big = [("delay", BOOL, (), 0, 0, ())] * 8
        five = tuple((f"i{at}", BOOL, 0) for at in range(5))
        for call in (greatest, surely_kept):
            call(flow(five[:4], *big))
            for made, part in ((flow((), *big, ("beat", BOOL, (), 2, 0)), "states"), (flow(five, *big), "rows"),
                               (flow(five, *big, *big), "rows")):
                with self.assertRaises(TooMany) as caught:
                    call(made)
                self.assertEqual(caught.exception.part, part)

    def test_random_flows(self):
        kept = surely = not_surely = 0
        for seed in range(300):
            made = small_flow(seed, 40)
            part = greatest(made)
            self.assertEqual(part, slow_greatest(made))
            self.assertTrue(holds(made, part))
            self.assertIs(surely_kept(made), slow_surely(made, part))
            is_kept = decided(made, 1000)[0] == "kept"
            if surely_kept(made):
                surely += 1
                self.assertTrue(is_kept)
                self.assertIs(judge_sayings(made, 1, part), True)
            elif is_kept:
                not_surely += 1
            kept += is_kept
        self.assertTrue(kept > 100 and surely > 60 and not_surely > 0, (kept, surely, not_surely))

    def test_greatest_of_all_parts(self):
        """All parts of small families are tried."""
        tried = 0
        for seed in range(400):
            made = small_flow(seed, 12)
            whole = family(made)
            if not 1 <= len(whole) <= 9:
                continue
            tried += 1
            joined = set()
            for many in range(len(whole) + 1):
                for part in itertools.combinations(whole, many):
                    if holds(made, part):
                        joined |= set(part)
            self.assertEqual(set(greatest(made)), joined)
        self.assertGreater(tried, 40)

    def test_long_countings(self):
        """A counter over all 256 states drops its sayings one by one."""
        num = ("num", 0, 255, 1, "wrap")
        nodes = (("delay", num, (), 0, 2, ()), ("const", num, (), 1), ("add", num, (), 0, 1))
        made = flow((), *nodes)
        self.assertEqual(greatest(made), (("least", 0, 0), ("most", 0, 255)))
        rng = random.Random(0)
        self.assertIs(surely_kept(flow((("x", BOOL, rng.choice([0])),), *nodes, ("const", BOOL, (), 1), keeps=(3,))), True)


if __name__ == "__main__":
    unittest.main()
