import unittest

from keepsgoing.checking import checked
from keepsgoing.errors import CheckFault, TooLarge
from keepsgoing.exprparts import listed
from keepsgoing.flatruns import FlatRun
from keepsgoing.flatten import flatten
from keepsgoing.flowof import flow_of
from keepsgoing.flowruns import FlowRun
from keepsgoing.flows import is_flow, is_straight, knots_of
from keepsgoing.knotruns import KnotRun
from keepsgoing.knots import judge_knots
from keepsgoing.reading import read_program
from tests.flowjudge import judged
from tests.randomflats import flat_rows, random_flat
from tests.randomprograms import random_program, random_rows
from tests.test_flatruns import is_let

BOOL = ("bool",)
LV = ("num", 0, 99, 1, "hold")
MODE = ("mode", tuple("pqrstuvw"))
ROW = ("row", BOOL, 6)
NO, YES = ("truth", 0), ("truth", 1)
INPUTS = (("a", LV, 0), ("b", BOOL, 0), ("m", MODE, 0), ("o", ROW, 0), ("e", LV, 1), ("c", BOOL, 0))
A, B, E = ("name", "a"), ("name", "b"), ("name", "e")
ON = ("is", "b", YES)


def flat(*exprs, inputs=INPUTS):
    """Equations x0, x1, ..; all are shown."""
    eqs = tuple((f"x{at}", None, None, 0, expr) for at, expr in enumerate(exprs))
    return ("flat", inputs, eqs, tuple(eq[0] for eq in eqs), (), ())


def weight(made):
    total = 2 * len(made[1])
    for equation in made[2]:
        for part, _ in listed(equation[4]):
            total += 30 if part[0] in ("then", "held", "fresh", "weave", "merge") else 2
    return total


class Flows(unittest.TestCase):
    def shows(self, made, rows):
        """The flow is right and shows what the flat run shows; it is returned."""
        flow = flow_of(made)
        self.assertTrue(judged(flow))
        self.assertTrue(is_flow(flow))
        events = {0: 0, 1: 1}
        self.assertEqual(flow[1], tuple((name, kind, events.get(event, 2)) for name, kind, event in made[1]))
        self.assertEqual([tuple(name for name, _ in part) for part in flow[3:]], list(made[3:]))
        wanted = list(FlatRun(made).ticks(rows))
        self.assertEqual(list(KnotRun(flow).ticks(rows)), wanted)
        if is_straight(flow):
            self.assertEqual(list(FlowRun(flow).ticks(rows)), wanted)
        return flow


class Words(Flows):
    def test_forms(self):
        q = ("is", "m", ("mode", MODE[1], 1))
        made = flat(
            ("then", A, ("add", ("last", A, ("b",)), ("int", 1)), ("b", "e@here")),
            ("held", A, ("when", ("int", 7), ON), ON, ("c",)),
            ("held", ("name", "o"), ("when", ("name", "o"), q), q, ("c", "b")),
            ("held", A, ("when", A, ("every", 3, 2, None)), ("every", 3, 2, None), ()),
            ("held", ("int", 0), ("when", A, ("is", "b", NO)), ("is", "b", NO), ()),
            ("weave", ("when", A, ("every", 2, 0, None)), ("int", 3)),
            ("merge", "e@here", ((NO, ("when", A, ("is", "e@here", NO))), (YES, E))),
            ("fresh", "e", 0, A), ("fresh", "e", 12, A), E, ("name", "e@here"), B)
        self.shows(made, flat_rows(3, made, 200))

    def test_fresh(self):
        for n in range(13):
            made = flat(("fresh", "e", n, A))
            self.shows(made, flat_rows(n, made, 150))

    def test_fresh_of_all_kinds(self):
        for kind in (BOOL, ("num", -3, -1, 2, "hold"), MODE, ("mode", ("a",)), ("row", BOOL, 6), ("row", LV, 1)):
            for n in (0, 2):
                made = flat(("fresh", "x", n, ("name", "y")), inputs=(("x", kind, 1), ("y", kind, 0)))
                checked(made)
                self.shows(made, flat_rows(n, made, 40))

    def test_names_that_are_the_same(self):
        made = flat(("name", "x1"), ("name", "x2"), ("add", A, A), ("name", "a"), ("name", "e@here"))
        flow = self.shows(made, flat_rows(1, made, 5))
        self.assertEqual(len({node for _, node in flow[3]}), 3)

    def test_shown_in_order(self):
        eqs = tuple((name, None, None, 0, expr) for name, expr in
                    (("x", A), ("y", B), ("z", ("not", B)), ("w", ("when", B, ON))))
        made = ("flat", INPUTS, eqs, ("z", "x"), ("w",), ("y",))
        self.shows(made, flat_rows(1, made, 9))

    def test_loose_inputs(self):
        inputs = INPUTS + (("l", LV, "x0"), ("k", BOOL, "x0"), ("j", LV, "a"))
        layer = ("is", "k", YES)
        made = flat(("when", A, ON), ("name", "l"), ("name", "j"),
                    ("held", ("name", "l"), ("when", ("name", "x0"), layer), layer, ()),
                    ("then", ("name", "x0"), ("last", ("name", "l"), ("k",)), ("k",)), inputs=inputs)
        flow = self.shows(made, flat_rows(2, made, 60))
        self.assertEqual([event for _, _, event in flow[1]], [0, 0, 0, 0, 1, 0, 2, 2, 2])

    def test_contents_are_those_of_the_run(self):
        # What is no longer held or fresh leaves nothing behind: few states are reached.
        small = ("num", 0, 3, 1, "hold")
        inputs = (("a", small, 0), ("b", BOOL, 0), ("c", BOOL, 0), ("e", small, 1))
        made = flat(("held", A, ("when", A, ON), ON, ("c",)), inputs=inputs)
        rows = [row[:3] + (None,) for row in flat_rows(5, made, 900)]
        self.assertEqual(len(self.states(made, rows)), 5)
        made = flat(("fresh", "e", 3, A), inputs=inputs)
        self.assertEqual(len(self.states(made, flat_rows(6, made, 900))), 1 + 3 * 4)

    def states(self, made, rows):
        run = FlowRun(flow_of(made))
        found = {run.state}
        for row in rows:
            run.tick(row)
            found.add(run.state)
        return found


class Rings(Flows):
    def test_knots(self):
        made = flat(("pick", B, ("name", "c"), ("name", "x1")),
                    ("pick", B, ("not", ("name", "x0")), ("eq", A, ("int", 3))))
        flow = self.shows(made, flat_rows(4, made, 30))
        self.assertEqual(len(knots_of(flow)), 1)
        self.assertTrue(judge_knots(flow))

    def test_equal_parts_are_one_node(self):
        # With unlike nodes for the equal parts the knot would not settle.
        test = ("then", NO, ("last", B, ()), ())
        made = flat(("pick", test, ("name", "x1"), B), ("pick", test, B, ("name", "x0")))
        flow = self.shows(made, flat_rows(5, made, 30))
        self.assertTrue(judge_knots(flow))
        names = [("name", f"x{at}") for at in range(2)]
        eight = [("then", NO, ("last", ("lt", A, ("int", at)), ()), ()) for at in range(8)]

        def twice(parts, name):
            for part in parts:
                name = ("or", part, name)
            return ("and", NO, name)
        made = flat(twice(eight[:4], names[1]), twice(eight[2:6], names[0]))
        flow = self.shows(made, flat_rows(6, made, 30))
        self.assertTrue(judge_knots(flow))

    def test_knots_only_where_the_flat_program_has_some(self):
        made = flat(("last", ("not", ("name", "x1")), ()), ("then", NO, ("name", "x0"), ()))
        made = made[:3] + (("x1",), (), ())
        self.assertTrue(is_straight(self.shows(made, flat_rows(7, made, 20))))


class Weights(Flows):
    """Flat programs of a weight of just 2000, or a little less."""

    RESETS = ("b", "c", "e@here")

    def fill(self, make, extra=(), inputs=INPUTS):
        """As many exprs of make as there is weight for, and names up to 2000."""
        exprs = list(extra)
        while weight(flat(*exprs, make(len(exprs)), inputs=inputs)) <= 2000:
            exprs.append(make(len(exprs)))
        filler = ("row",) + (B,) * 5
        while weight(flat(*exprs, filler, inputs=inputs)) <= 2000 and len(exprs) < 300:
            exprs.append(filler)
        made = flat(*exprs, inputs=inputs)
        self.assertGreater(weight(made), 1980)
        checked(made)
        return self.shows(made, flat_rows(8, made, 8))

    def test_thens(self):
        self.fill(lambda at: ("then", ("name", "o"), ("last", ("name", "o"), self.RESETS), self.RESETS))
        self.fill(lambda at: ("then", B, B, self.RESETS))
        self.fill(lambda at: ("then", A, ("int", at), ()))

    def test_helds(self):
        q = ("is", "m", ("mode", MODE[1], 5))
        self.fill(lambda at: ("held", ("name", "o"), ("name", "x0"), q, self.RESETS),
                  [("when", ("name", "o"), q)])
        self.fill(lambda at: ("held", B, YES, ("is", "m", ("mode", MODE[1], at % 8)), ()))
        self.fill(lambda at: ("held", A, ("int", 5), ("every", 12, at % 12, None), self.RESETS))
        self.fill(lambda at: ("held", A, ("int", 5), ("is", "b", NO), self.RESETS))

    def test_freshes(self):
        self.fill(lambda at: ("fresh", "e", at % 13, ("int", at)))
        self.fill(lambda at: ("fresh", "e", 12, A))

    def test_weaves(self):
        self.fill(lambda at: ("weave",) + (NO,) * 6)
        self.fill(lambda at: ("weave", ("when", A, ("every", 1, 0, None))))

    def test_weaves_on_clocks_of_their_own(self):
        def make(at):
            if at % 2 == 0:
                return ("when", ("name", "o"), ("every", 2 + at % 11, at % 2, None))
            arms = [("when", ("name", f"x{at - 1}"), ("every", 6, k, None)) for k in range(6)]
            return ("weave",) + tuple(arms)
        self.fill(make)

    def test_merges(self):
        arms = tuple((("mode", MODE[1], at), ("int", at)) for at in range(8))
        self.fill(lambda at: ("add", ("merge", "m", arms), A))
        self.fill(lambda at: ("merge", "b", ((NO, NO), (YES, YES))))

    def test_other_parts(self):
        self.fill(lambda at: ("add", ("int", at % 90), A))
        self.fill(lambda at: ("row", NO, YES, NO))
        self.fill(lambda at: ("when", ("when", YES, ("every", 12, at % 12, None)),
                              ("every", 1 + at % 11, 0, None)))

    def test_inputs(self):
        events = tuple((f"e{at}", BOOL, 1) for at in range(900))
        self.fill(lambda at: ("name", f"e{at}@here"), inputs=INPUTS + events)
        self.fill(lambda at: A, inputs=INPUTS + tuple((f"i{at}", ROW, 0) for at in range(940)))

    def test_deep_clocks(self):
        def make(at):
            expr = ("name", f"x{at - 1}") if at else A
            for depth in range(90):
                expr = ("when", expr, ("every", 1 + depth % 2, 0, None))
            return expr
        self.fill(make)

        def held(at):
            expr = ("name", f"x{at - 1}") if at else A
            for depth in range(5):
                layer = ("every", 2, depth % 2, None)
                expr = ("held", ("int", depth), ("when", expr, layer), layer, ("b",))
            return expr
        self.fill(held)


class Bounds(Flows):
    def large(self, made):
        with self.assertRaises(TooLarge) as caught:
            flow_of(made)
        self.assertEqual(caught.exception.part, "flow")

    def chain(self, many):
        """So many additions that hang on each other."""
        exprs = []
        before = A
        while many > 0:
            expr = before
            for _ in range(min(many, 90)):
                expr = ("add", expr, A)
            many -= 90
            before = ("name", f"x{len(exprs)}")
            exprs.append(expr)
        return flat(*exprs)

    def test_too_large(self):
        self.large(self.chain(2100))
        self.large(self.chain(6000))
        lasts = [("then", A, ("add", ("last", ("name", f"x{at}"), ()), ("int", 1)), ()) for at in range(300)]
        self.assertLessEqual(len(flow_of(flat(*lasts[:200]))[2]), 2000)
        deep = []
        for at in range(300):
            expr = ("last", A, ())
            for each in range(9):
                expr = ("last", ("add", expr, ("int", (at + each) % 90)), ())
            deep.append(("then", A, expr, ("b",)))
        made = flat(*deep)
        self.large(made[:3] + ((), (), ()))

    def test_not_too_large(self):
        made = self.chain(1900)
        self.assertLessEqual(len(flow_of(made)[2]), 2000)
        self.assertEqual(len(self.shows(self.chain(100), flat_rows(1, made, 3))[2]), 107)


class Whole(Flows):
    def test_random_programs(self):
        let = 0
        for seed in range(300, 380):
            text, kinds = random_program(seed)
            made = flatten(read_program(text))
            try:
                checked(made)
            except CheckFault:
                continue
            let += 1
            self.shows(made, random_rows(seed, kinds, 40))
        self.assertGreater(let, 50)

    def test_random_flats(self):
        let = knots = 0
        for seed in range(1000, 1160):
            made = random_flat(seed, 2 + seed % 4, seed % 2 == 1)
            if is_let(made):
                let += 1
                flow = self.shows(made, flat_rows(seed, made, 60))
                if not is_straight(flow):
                    knots += 1
                    self.assertTrue(judge_knots(flow))
        self.assertGreater(let, 90)
        self.assertGreater(knots, 15)


if __name__ == "__main__":
    unittest.main()
