import random
import unittest

from keepsgoing.flows import hangs, is_flow, is_straight, knots_of, memory_of
from tests.flowjudge import judged
from tests.randomflows import random_flow

BOOL = ("bool",)
NUM = ("num", 0, 5, 1, "wrap")
MODE = ("mode", ("a", "b", "c"))
INPUTS = (("x", BOOL, 0), ("e", NUM, 1), ("l", NUM, 2), ("m", MODE, 0), ("f", NUM, 1))
ON = ((0, 1),)
NODES = (
    ("input", BOOL, (), 0),
    ("here", BOOL, (), 1),
    ("input", NUM, ((1, 1),), 1),
    ("input", NUM, ON, 2),
    ("input", MODE, (), 3),
    ("const", NUM, ((0, 0),), 4),
    ("merge", NUM, (), 0, (5, 3)),
    ("delay", NUM, ON, 2, 3, (0, 1)),
    ("beat", BOOL, (), 3, 2),
    ("add", NUM, (), 6, 6),
    ("when", NUM, ON, 9),
    ("row", ("row", NUM, 2), (), 6, 9),
    ("const", BOOL, ((4, 0),), 1),
    ("const", BOOL, ((4, 1),), 0),
    ("when", BOOL, ((4, 2),), 8),
    ("merge", BOOL, (), 4, (12, 13, 14)),
    ("as", ("num", -9, 9, 2, "hold"), (), 9),
    ("when", BOOL, ON, 8),
    ("const", MODE, ON + ((17, 0),), 2),
    ("here", BOOL, (), 4),
)
FLOW = ("flow", INPUTS, NODES, (("o", 6), ("p", 10)), (("y", 8),), (("z", 15), ("w", 0)))


def with_node(at, node):
    nodes = NODES[:at] + (node,) + NODES[at + 1:]
    return FLOW[:2] + (nodes,) + FLOW[3:]


def with_part(at, place, part):
    node = NODES[at]
    return with_node(at, node[:place] + (part,) + node[place + 1:])


class IsFlow(unittest.TestCase):
    def yes(self, flow):
        self.assertIs(is_flow(flow), True, flow)
        self.assertTrue(judged(flow))

    def no(self, *flows):
        for flow in flows:
            self.assertIs(is_flow(flow), False, flow)

    def no_parts(self, at, place, *parts):
        self.no(*[with_part(at, place, part) for part in parts])

    def test_right(self):
        self.yes(FLOW)
        self.yes(FLOW[:3] + ((), (), ()))
        self.yes(("flow", (), (("const", BOOL, (), 0),), (), (), ()))

    def test_shape(self):
        self.no(("flaw",) + FLOW[1:], FLOW[:5], FLOW + ((),), (), None, "flow", 5)
        for at in range(1, 6):
            self.no(FLOW[:at] + (None,) + FLOW[at + 1:], FLOW[:at] + ((1,),) + FLOW[at + 1:])
            self.no(FLOW[:at] + ((("a",),),) + FLOW[at + 1:], FLOW[:at] + (((),),) + FLOW[at + 1:])

    def test_how_many(self):
        self.no(FLOW[:2] + ((),) + ((), (), ()))
        const = (("const", BOOL, (), 0),)
        self.yes(("flow", (), const * 2000, (), (), ()))
        self.no(("flow", (), const * 2001, (), (), ()))
        inputs = tuple((f"i{at}", NUM, 0) for at in range(3001))
        self.yes(("flow", inputs[:3000], const, (), (), ()))
        self.no(("flow", inputs, const, (), (), ()))

    def test_names(self):
        self.no(FLOW[:1] + (INPUTS[:4] + (("x", NUM, 1),),) + FLOW[2:])
        for at, name in ((3, "y"), (3, "z"), (4, "o"), (4, "z"), (5, "o"), (5, "y")):
            self.no(FLOW[:at] + (FLOW[at] + ((name, 0),),) + FLOW[at + 1:])
        for at in (3, 4, 5):
            self.no(FLOW[:at] + ((("q", 0), ("q", 0)),) + FLOW[at + 1:])
            self.yes(FLOW[:at] + ((("q", 0), ("x", 0)),) + FLOW[at + 1:])
            self.no(FLOW[:at] + (((5, 0),),) + FLOW[at + 1:])

    def test_inputs(self):
        def inputs(at, place, part):
            one = INPUTS[at][:place] + (part,) + INPUTS[at][place + 1:]
            return FLOW[:1] + (INPUTS[:at] + (one,) + INPUTS[at + 1:],) + FLOW[2:]
        self.no(inputs(0, 1, ("bol",)), inputs(0, 1, NUM), inputs(2, 1, ("row", NUM, 7)))
        self.no(inputs(0, 2, 1), inputs(0, 2, -1), inputs(0, 2, 3), inputs(0, 2, None))
        self.yes(inputs(0, 2, 2))
        self.no(inputs(1, 2, 0), inputs(1, 2, 2), inputs(2, 2, 0), inputs(2, 2, 1))

    def test_numbers_of_what_is_shown(self):
        for at in (3, 4, 5):
            for node in (-1, len(NODES), 1000000, None):
                self.no(FLOW[:at] + ((("q", node),),) + FLOW[at + 1:])
        for at in (4, 5):
            self.no(FLOW[:at] + ((("q", 4),),) + FLOW[at + 1:])
            self.no(FLOW[:at] + ((("q", 6),),) + FLOW[at + 1:])
        self.yes(FLOW[:3] + ((("q", 4), ("r", 11)),) + FLOW[4:])

    def test_words(self):
        for at, node in enumerate(NODES):
            words = ["", "inputs", "nand", "then", "last", None, 7]
            words += [other[0] for other in NODES if len(other) != len(node)]
            for word in words:
                self.no(with_part(at, 0, word))

    def test_lengths(self):
        for at, node in enumerate(NODES):
            self.no(with_node(at, node[:-1]), with_node(at, node + (0,)), with_node(at, node[:2]))
            self.no(with_node(at, ()))

    def test_kinds(self):
        for at, node in enumerate(NODES):
            for kind in ((), ("bol",), ("num", 0, 5, 0, "wrap"), ("num", 0, 6, 1, "wrap"),
                         ("row", BOOL, 6), ("mode", ("a", "b"))):
                if at not in (16, 18) or kind != ("num", 0, 6, 1, "wrap"):
                    self.no(with_part(at, 1, kind))

    def test_clocks(self):
        for at in range(len(NODES)):
            self.no_parts(at, 2, ((0, 2),), ((0, -1),), ((20, 1),), ((-1, 1),), ((6, 1),),
                          None, 5, ((0,),), ((0, 1, 1),), (0,), ((None, 1),),
                          ((9, 1),), ((11, 0),), ((4, 3),), ((0, 1), (0, 1)), ((17, 1),),
                          ((17, 1), (0, 1)), ((8, 1), (17, 1)), ((0, 0), (17, 1)), ((0, None),))
        self.no_parts(8, 2, ((8, 1),))
        self.yes(with_part(8, 2, ()))
        lonely = ("const", NUM, (), 0)
        for clock in ((), ON, ON + ((17, 1),), ((4, 2),), ((8, 0),), ((19, 1),)):
            nodes = NODES + (lonely[:2] + (clock,) + lonely[3:],)
            self.yes(FLOW[:2] + (nodes,) + FLOW[3:])

    def test_inputs_and_heres(self):
        self.no_parts(0, 3, -1, 5, 1, 3, None)
        self.no_parts(0, 2, ON, ((1, 1),))
        self.no_parts(2, 2, (), ((1, 0),), ((19, 1),), ON, ((1, 1), (0, 1)))
        self.no_parts(2, 3, 0, 4, -1, 5)
        self.no_parts(1, 3, 0, 2, 3, 5, -1)
        self.no_parts(1, 2, ON)
        self.no_parts(1, 1, NUM)
        nodes = NODES + (("input", NUM, (), 2), ("input", NUM, ON + ((17, 1),), 2),
                         ("input", NUM, ((19, 1),), 4), ("here", BOOL, (), 4))
        self.yes(FLOW[:2] + (nodes,) + FLOW[3:])
        # A const of 1 is no here of the input number 1.
        nodes = nodes + (("const", BOOL, (), 1), ("input", NUM, ((24, 1),), 1))
        self.no(FLOW[:2] + (nodes,) + FLOW[3:])
        nodes = nodes[:-2]
        # Another here of the same input does, too.
        self.yes(FLOW[:2] + (nodes + (("input", NUM, ((23, 1),), 4),),) + FLOW[3:])

    def test_nodes_that_nothing_looks_at(self):
        for node in (("beat", NUM, (), 3, 1), ("beat", MODE, (), 3, 1), ("here", NUM, (), 1),
                     ("here", BOOL, ON, 1), ("const", ("bol",), (), 0), ("not", NUM, (), 0),
                     ("eq", NUM, (), 6, 6), ("as", BOOL, (), 9), ("row", NUM, (), 6, 9)):
            self.no(FLOW[:2] + (NODES + (node,),) + FLOW[3:])
        for node in (("beat", BOOL, (), 3, 1), ("here", BOOL, (), 1), ("not", BOOL, (), 0),
                     ("eq", BOOL, (), 6, 6)):
            self.yes(FLOW[:2] + (NODES + (node,),) + FLOW[3:])

    def test_consts(self):
        self.no_parts(5, 3, -1, 6, None, (), (4,))
        self.no_parts(18, 3, 3, -1)

    def test_operations(self):
        self.no_parts(9, 3, -1, 20, None, (), 3, 5, 0, 4, 8, 11)
        self.no_parts(11, 4, 0, 3, 4)
        self.no_parts(16, 3, 0, 3, 4, 11)
        self.no_parts(16, 1, BOOL, MODE, ("row", NUM, 2))
        self.yes(with_part(16, 1, NUM))
        self.yes(with_part(9, 4, 9))
        self.no(with_node(9, ("row", ("row", NUM, 1), ())))
        self.no(with_node(11, ("row", ("row", NUM, 6), ()) + (6,) * 7))

    def test_whens(self):
        self.no_parts(10, 3, -1, 20, None, 3, 10, 0, 11)
        self.no_parts(10, 2, (), ON + ((17, 1),))
        self.yes(with_part(10, 3, 6))
        self.yes(with_part(14, 3, 15))

    def test_merges(self):
        self.no_parts(6, 3, -1, 20, None, 4, 8, 3, 17, 9)
        self.no_parts(6, 4, (), (5,), (5, 3, 3), (3, 5), (5, 5), (5, 17), (6, 3), (5, -1), (5, 20),
                      (5, None), None, 5)
        self.no_parts(15, 4, (12, 13), (12, 14, 13), (12, 13, 14, 14))
        self.no_parts(15, 3, 0, 8)
        num = ("num", 0, 1, 1, "wrap")
        nodes = (("const", num, (), 0), ("const", BOOL, ((0, 0),), 0), ("const", BOOL, ((0, 1),), 0),
                 ("merge", BOOL, (), 0, (1, 2)))
        self.no(("flow", (), nodes, (), (), ()))

    def test_delays(self):
        self.no_parts(7, 3, -1, 6, None, (), (2,))
        self.no_parts(7, 4, -1, 20, None, (), 6, 2, 17)
        self.no_parts(7, 5, (1, 0), (0, 0), (-1,), (20,), (6,), (4,), (None,), (12,), None, 0,
                      (0, 14), (0, 1, 1))
        for resets in ((), (0,), (0, 1, 8), (17,), (0, 17, 19)):
            self.yes(with_part(7, 5, resets))
        self.yes(with_part(7, 4, 7))

    def test_beats(self):
        self.no_parts(8, 3, 0, -1, 13, 2, 1000000, None)
        self.no_parts(8, 4, -1, 3, 1000000, None)
        self.yes(with_node(8, ("beat", BOOL, (), 12, 11)))
        self.yes(with_node(8, ("beat", BOOL, (), 1, 0)))

    def test_spoilt_in_every_place(self):
        """Each number, word and length is exchanged in turn; both judges agree, without errors."""
        rng = random.Random(7)
        for seed in range(4):
            flow = FLOW if seed == 0 else random_flow(seed, 14)
            self.yes(flow)
            for spoilt in spoilt_ones(flow, rng):
                self.assertIs(is_flow(spoilt), judged(spoilt), spoilt)

    def test_random_ones(self):
        for seed in range(30):
            self.yes(random_flow(seed, 40))


def spoilt_ones(thing, rng):
    """The tuples with one part exchanged; lengths only of tuples that can have any."""
    for at, part in enumerate(thing):
        for new in spoilt_parts(part, rng):
            yield thing[:at] + (new,) + thing[at + 1:]


def spoilt_parts(part, rng):
    if isinstance(part, tuple):
        yield from spoilt_ones(part, rng)
    elif isinstance(part, int):
        for new in (part - 1, part + 1, -1, rng.randrange(20), 1000000):
            if new != part:
                yield new
    elif isinstance(part, str):
        for new in ("", part + "x", "add", "o", "wrap"):
            if new != part:
                yield new


class Knots(unittest.TestCase):
    RING = ("flow", (("x", BOOL, 0),), (
        ("not", BOOL, (), 1), ("and", BOOL, (), 0, 2), ("input", BOOL, (), 0),
        ("or", BOOL, (), 3, 2), ("xor", BOOL, (), 5, 2), ("pick", BOOL, (), 2, 4, 3),
        ("delay", BOOL, (), 0, 7, ()), ("not", BOOL, (), 6),
        ("delay", BOOL, (), 0, 8, (9,)), ("not", BOOL, (), 8),
        ("merge", BOOL, (), 2, (11, 12)), ("when", BOOL, ((2, 0),), 10),
        ("const", BOOL, ((2, 1),), 1)), (), (), ())

    def test_knots(self):
        self.assertTrue(is_flow(self.RING))
        self.assertEqual(knots_of(self.RING), ((0, 1), (3,), (4, 5), (8, 9), (10, 11)))
        self.assertIs(is_straight(self.RING), False)
        self.assertEqual(memory_of(self.RING), (6, 8))

    def test_knots_through_clocks(self):
        flow = ("flow", (("l", BOOL, 2),), (
            ("merge", BOOL, (), 3, (1, 2)), ("const", BOOL, ((3, 0),), 1),
            ("input", BOOL, ((3, 1),), 0), ("not", BOOL, (), 0)), (), (), ())
        self.assertTrue(is_flow(flow))
        self.assertEqual(knots_of(flow), ((0, 1, 2, 3),))

    def test_straight(self):
        self.assertEqual(knots_of(FLOW), ())
        self.assertIs(is_straight(FLOW), True)
        for seed in range(20):
            self.assertIs(is_straight(random_flow(seed, 40)), True)

    def test_long_rings(self):
        many = 2000
        nodes = tuple(("not", BOOL, (), (at + 1) % many) for at in range(many))
        flow = ("flow", (), nodes, (), (), ())
        self.assertTrue(is_flow(flow))
        self.assertEqual(knots_of(flow), (tuple(range(many)),))
        self.assertFalse(is_straight(flow))

    def test_random_knots(self):
        rng = random.Random(3)
        for _ in range(40):
            many = rng.randrange(1, 12)
            nodes = tuple(rng.choice([("not", BOOL, (), rng.randrange(many)),
                                      ("delay", BOOL, (), 0, rng.randrange(many), ()),
                                      ("and", BOOL, (), rng.randrange(many), rng.randrange(many)),
                                      ("const", BOOL, (), 1)]) for _ in range(many))
            flow = ("flow", (), nodes, (), (), ())
            self.assertEqual(knots_of(flow), self.slow_knots(flow))

    def slow_knots(self, flow):
        many = len(flow[2])
        reach = [set(hangs(flow, at)) for at in range(many)]
        for _ in range(many):
            for at in range(many):
                for other in list(reach[at]):
                    reach[at] |= reach[other]
        knots = {tuple(b for b in range(many) if b in reach[a] and a in reach[b])
                 for a in range(many) if a in reach[a]}
        return tuple(sorted(knots))


class Hangs(unittest.TestCase):
    def test_all_words(self):
        wanted = {0: (), 1: (), 2: (1,), 3: (0,), 4: (), 5: (0,), 6: (0, 3, 5), 7: (0, 1), 8: (),
                  9: (6,), 10: (0, 9), 11: (6, 9), 12: (4,), 14: (4, 8), 15: (4, 12, 13, 14),
                  16: (9,), 17: (0, 8), 18: (0, 17)}
        for node, on in wanted.items():
            self.assertEqual(hangs(FLOW, node), on)

    def test_memory(self):
        self.assertEqual(memory_of(FLOW), (7, 8))
        self.assertEqual(memory_of(("flow", (), (("const", BOOL, (), 0),), (), (), ())), ())


if __name__ == "__main__":
    unittest.main()
