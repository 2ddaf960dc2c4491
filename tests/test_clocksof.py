import random
import unittest

from keepsgoing.clocksof import clocks_of
from keepsgoing.errors import ClockClash
from keepsgoing.flatten import flatten
from keepsgoing.reading import read_program
from tests.slowkinds import SlowClocks

BOOL = ("bool",)
NO, YES = ("truth", 0), ("truth", 1)
A, B, E = ("name", "a"), ("name", "b"), ("name", "e")
X, Y, Z = ("name", "x"), ("name", "y"), ("name", "z")
INPUTS = (("a", BOOL, 0), ("b", BOOL, 0), ("e", BOOL, 1), ("l", BOOL, "y"), ("k", BOOL, "a"))
ON, OFF = ("is", "a", YES), ("is", "a", NO)
COMES = ("is", "e@here", YES)


def flat(*eqs):
    """Equations x, y, z, w: an expr, or a triple of home, tied and expr."""
    made = []
    for name, eq in zip("xyzw", eqs):
        home, tied, expr = eq if len(eq) == 3 and isinstance(eq[1], int) else (None, 0, eq)
        made.append((name, BOOL, home, tied, expr))
    # The loose input l needs its home.
    inputs = INPUTS if len(made) > 1 else INPUTS[:3] + INPUTS[4:]
    return ("flat", inputs, tuple(made), ("x",), (), ())


class Clocks(unittest.TestCase):
    def clocks(self, *eqs):
        return clocks_of(flat(*eqs))

    def clash(self, at, *eqs):
        with self.assertRaises(ClockClash) as caught:
            self.clocks(*eqs)
        self.assertEqual(caught.exception.at, at)

    def test_leaves(self):
        self.assertEqual(self.clocks(A, E, ("name", "e@here")), ((), (COMES,), ()))
        self.assertEqual(self.clocks(YES, ("mode", ("p",), 0), ("int", 3)), ((), (), ()))
        self.assertEqual(self.clocks(("name", "k")), ((),))

    def test_operations(self):
        self.assertEqual(self.clocks(("and", A, YES), ("and", E, YES), ("not", E)),
                         ((), (COMES,), (COMES,)))
        self.assertEqual(self.clocks(("as", E, BOOL), ("last", E, ()), ("then", YES, E, ())),
                         ((COMES,),) * 3)
        self.clash(0, ("and", A, E))
        self.clash(1, A, ("then", A, ("last", E, ()), ()))

    def test_samples(self):
        every = ("every", 3, 1, None)
        self.assertEqual(self.clocks(("when", A, ON), ("when", X, ("is", "x", NO)), ("when", Y, every)),
                         ((ON,), (ON, ("is", "x", NO)), (ON, ("is", "x", NO), every)))
        self.assertEqual(self.clocks(("when", E, every)), ((COMES, every),))
        self.clash(0, ("when", E, ON))
        self.clash(1, ("when", A, ON), ("when", X, ON))
        self.clash(1, ("when", A, ON), ("and", X, A))
        self.clash(1, ("when", A, ON), ("and", X, ("when", A, OFF)))
        self.clash(0, ("and", ("when", A, ("every", 2, 0, None)), ("when", A, ("every", 2, 0, "a"))))
        self.clash(0, ("and", ("when", A, ("every", 2, 0, None)), ("when", A, ("every", 2, 1, None))))

    def test_joins(self):
        self.assertEqual(self.clocks(("merge", "a", ((NO, ("when", B, OFF)), (YES, YES)))), ((),))
        self.assertEqual(self.clocks(("merge", "e@here", (
            (NO, ("when", A, ("is", "e@here", NO))), (YES, E)))), ((),))
        self.clash(0, ("merge", "a", ((NO, ("when", B, ON)), (YES, YES))))
        self.clash(0, ("merge", "a", ((NO, B), (YES, YES))))
        self.assertEqual(self.clocks(("held", A, ("when", B, ON), ON, ())), ((),))
        self.assertEqual(self.clocks(("held", YES, Y, ON, ()), NO), ((), (ON,)))
        self.clash(0, ("held", A, B, ON, ()))
        self.clash(0, ("held", E, YES, ON, ()))
        every = ("every", 2, 1, None)
        self.assertEqual(self.clocks(("held", E, Y, every, ()), NO), ((COMES,), (COMES, every)))
        self.assertEqual(self.clocks(("fresh", "e", 3, A), ("fresh", "e", 3, Z), NO), ((),) * 3)
        self.clash(0, ("fresh", "e", 3, E))
        self.clash(1, ("fresh", "e", 3, A), ("and", X, E))

    def test_weaves(self):
        def layer(k, home=None):
            return ("every", 2, k, home)
        self.assertEqual(self.clocks(("weave", Y, Z), YES, NO), ((), (layer(0),), (layer(1),)))
        self.assertEqual(self.clocks(("a", 0, ("weave", Y, Z)), YES, NO),
                         ((), (layer(0, "a"),), (layer(1, "a"),)))
        arms = ("weave", ("when", E, layer(0)), ("when", E, layer(1)))
        self.assertEqual(self.clocks(arms), ((COMES,),))
        self.assertEqual(self.clocks(("weave", Y), YES), ((), (("every", 1, 0, None),)))
        self.clash(0, ("weave", ("when", E, layer(0)), ("when", A, layer(1))))
        self.clash(0, ("weave", ("when", E, layer(1)), ("when", E, layer(0))))
        self.clash(0, ("weave", A, A))
        self.clash(0, ("a", 0, arms))

    def test_ties(self):
        self.assertEqual(self.clocks(E, ("x", 1, YES), ("x", 2, YES)), ((COMES,),) * 3)
        self.clash(1, E, ("x", 1, A))
        self.clash(1, E, (None, 1, X))
        self.clash(1, E, (None, 2, A))
        self.clash(0, ("a", 1, E))
        self.clash(0, (None, 1, ("when", YES, ("every", 2, 0, None))))
        self.clash(1, ("when", Y, ("every", 2, 0, None)), ("and", X, A))
        self.clash(0, ("a", 1, ("held", ("when", YES, ON), ("when", YES, OFF), OFF, ())))
        self.assertEqual(self.clocks(Z, ("x", 1, YES), E), ((COMES,),) * 3)
        self.clash(2, Z, ("a", 2, Y), ("and", E, A))

    def test_told_beginnings(self):
        every = ("every", 2, 0, None)
        # Nothing tells the clocks of x and y but their homes.
        self.assertEqual(self.clocks(E, ("x", 0, YES), ("y", 0, NO)), ((COMES,),) * 3)
        self.assertEqual(self.clocks(E, ("x", 0, ("when", YES, every))), ((COMES,), (COMES, every)))
        # Names that share a beginning get the one of the first of them.
        self.assertEqual(self.clocks(E, (None, 0, ("not", Z)), ("x", 0, YES)), ((COMES,), (), ()))
        self.assertEqual(self.clocks(E, ("x", 0, ("not", Z)), (None, 0, YES)), ((COMES,),) * 3)
        self.assertEqual(self.clocks(E, ("x", 0, ("when", Z, every)), (None, 0, YES)),
                         ((COMES,), (COMES, every), (COMES,)))
        self.assertEqual(self.clocks(E, (None, 0, YES), ("x", 0, ("when", Y, every))),
                         ((COMES,), (), (every,)))
        self.assertEqual(self.clocks(YES, ("x", 0, NO)), ((), ()))

    def test_later_equations_tell(self):
        self.assertEqual(self.clocks(("not", Y), ("and", Z, YES), E), ((COMES,),) * 3)
        self.clash(2, ("not", Y), ("and", Z, A), ("when", A, ON))
        self.clash(1, ("when", Y, ON), ("not", X))
        self.clash(0, ("when", X, ("every", 2, 0, None)))
        self.clash(2, ("when", Y, ("every", 2, 0, None)), ("not", Z), ("not", X))

    def test_loose_inputs(self):
        # The loose input l has the clock of y, k that of a.
        self.assertEqual(self.clocks(("name", "l"), E), ((COMES,), (COMES,)))
        self.assertEqual(self.clocks(("name", "l"), ("when", A, ON)), ((ON,), (ON,)))
        self.assertEqual(self.clocks(E, ("x", 0, ("not", ("name", "l")))), ((COMES,), (COMES,)))
        self.clash(1, ("and", A, ("name", "l")), E)
        self.clash(0, ("and", E, ("name", "k")))

    def test_programs(self):
        text = """unit u(i: bool) gives (o: bool) { local n; n = 3 then last n + 1; o = i;
          local s; s = when(i, every 2 from 0); machine m { state s1 { local c; c = 1; } } }
          unit t(event e: bool, b: bool) gives (x: bool) { local k; use k = u(e); x = b; }"""
        flat_program = flatten(read_program(text))
        told = dict(zip([eq[0] for eq in flat_program[2]], clocks_of(flat_program)))
        on = ("is", "k.m@now", ("mode", ("s1",), 0))
        self.assertEqual(told["k.n"], (COMES,))
        self.assertEqual(told["k.s"], (COMES, ("every", 2, 0, "k.i")))
        self.assertEqual(told["k.m.s1@here"], (COMES, on))
        self.assertEqual(told["k.m.s1.c"], (COMES, on))
        self.assertEqual(told["k"], (COMES,))

    def test_long_clocks(self):
        every = ("every", 1, 0, None)
        eqs = [("x0", BOOL, None, 0, A)]
        for at in range(1, 300):
            eqs.append((f"x{at}", BOOL, None, 0, ("when", ("name", f"x{at - 1}"), every)))
        made = ("flat", INPUTS[:3], tuple(eqs), ("x0",), (), ())
        self.assertEqual(clocks_of(made)[-1], (every,) * 299)
        expr = A
        for _ in range(3000):
            expr = ("and", expr, YES)
        self.assertEqual(self.clocks(expr), ((),))


LAYERS = (ON, ("every", 2, 0, None), ("every", 2, 1, None), COMES)


def random_expr(rng, names, depth):
    if depth == 0 or rng.random() < 0.25:
        return rng.choice([YES, ("name", rng.choice(names)), ("name", rng.choice(names)),
                           ("name", rng.choice(names))])

    def inner():
        return random_expr(rng, names, depth - 1)
    layer = rng.choice([ON, ("every", 2, 0, None), ("is", "x", YES)])
    return rng.choice([
        ("and", inner(), inner()), ("not", inner()), ("last", inner(), ()),
        ("then", inner(), inner(), ()), ("when", inner(), layer), ("when", inner(), layer),
        ("held", inner(), inner(), layer, ()), ("weave", inner(), inner()), ("fresh", "e", 1, inner()),
        ("merge", "a", ((NO, inner()), (YES, inner())))])


class AllAssignments(unittest.TestCase):
    def random_flat(self, rng):
        eqs = []
        for name in ("x", "y"):
            tied = rng.choice([0, 0, 0, 1, 2 if name == "y" else 0])
            home = rng.choice([None, "a", "x" if name == "y" else None])
            expr = random_expr(rng, ["a", "b", "x", "y", "e", "e@here"], 2)
            eqs.append((name, BOOL, home, tied, expr))
        return ("flat", INPUTS[:3], tuple(eqs), ("x",), (), ())

    def layers(self, made):
        found = {("is", "e@here", YES): True}

        def look(expr, home):
            if expr[0] in ("when", "held"):
                found[expr[-1] if expr[0] == "when" else expr[3]] = True
            if expr[0] == "weave":
                found[("every", 2, 0, home)] = found[("every", 2, 1, home)] = True
            if expr[0] == "merge":
                found[("is", expr[1], YES)] = found[("is", expr[1], NO)] = True
            for part in expr[1:]:
                if isinstance(part, tuple) and part and isinstance(part[0], str):
                    look(part, home)
            if expr[0] == "merge":
                for _, part in expr[2]:
                    look(part, home)
        for eq in made[2]:
            look(eq[4], eq[2])
        return [layer for layer in found if layer[0] in ("is", "every")]

    def test_random_ones(self):
        rng = random.Random(4)
        told = {"clash": 0, "fit": 0, "free": 0}
        while told["fit"] < 50:
            made = self.random_flat(rng)
            layers = self.layers(made)
            if len(layers) > 3:
                continue
            slow = SlowClocks(made, layers, 3)
            clash = slow.clash()
            if clash is not None:
                with self.assertRaises(ClockClash) as caught:
                    clocks_of(made)
                self.assertEqual(caught.exception.at, clash, made)
                told["clash"] += 1
                continue
            got = clocks_of(made)
            fitting = [tuple(named[name] for name in ("x", "y")) for named, _ in slow.assignments(2)]
            self.assertIn(got, fitting, made)
            for at in range(2):
                if len({each[at] for each in fitting}) > 1:
                    told["free"] += 1
            told["fit"] += 1
        self.assertGreater(min(told.values()), 5, told)


if __name__ == "__main__":
    unittest.main()
