import random
import unittest

from keepsgoing.errors import KindClash, KindOpen
from keepsgoing.flatten import flatten
from keepsgoing.kindsof import kinds_of
from keepsgoing.reading import read_program
from tests.slowkinds import BOOL, CHOICE, HALF, MODE, PLAIN, TINY, WIDE, SlowKinds

A, B, C = ("name", "a"), ("name", "b"), ("name", "c")
X, Y, Z = ("name", "x"), ("name", "y"), ("name", "z")
LV = ("num", 0, 9, 1, "hold")
INPUTS = (("a", BOOL, 0), ("b", LV, 0), ("c", ("mode", ("p", "q")), 0), ("e", LV, 1),
          ("r", ("row", LV, 3), 0), ("l", ("num", 0, 9, 2, "hold"), "a"))


def flat(*exprs):
    """A flat program whose equations are x, y, z; an expr can stand beside a told kind."""
    eqs = []
    for name, expr in zip("xyz", exprs):
        told, expr = expr if isinstance(expr[0], tuple) or expr[0] is None else (None, expr)
        eqs.append((name, told, None, 0, expr))
    return ("flat", INPUTS, tuple(eqs), tuple(eq[0] for eq in eqs), (), ())


class Told(unittest.TestCase):
    def kinds(self, *exprs):
        return kinds_of(flat(*exprs))

    def clash(self, at, *exprs):
        with self.assertRaises(KindClash) as caught:
            self.kinds(*exprs)
        self.assertEqual(caught.exception.at, at)

    def opens(self, name, *exprs):
        with self.assertRaises(KindOpen) as caught:
            self.kinds(*exprs)
        self.assertEqual(caught.exception.name, name)

    def test_leaves(self):
        self.assertEqual(self.kinds(A, B, C), (BOOL, LV, ("mode", ("p", "q"))))
        self.assertEqual(self.kinds(("truth", 1), ("mode", ("a",), 0)), (BOOL, MODE))
        self.assertEqual(self.kinds(("name", "e"), ("name", "e@here"), ("name", "l")),
                         (LV, BOOL, INPUTS[5][1]))
        self.assertEqual(self.kinds((LV, ("int", 9))), (LV,))
        self.clash(0, (LV, ("int", 10)))
        self.clash(0, (LV, ("int", -1)))
        self.clash(0, (BOOL, ("int", 1)))
        self.clash(0, (BOOL, B))
        self.clash(0, (MODE, ("mode", ("a", "b"), 0)))
        self.opens("x", ("int", 5))

    def test_from_later_equations(self):
        self.assertEqual(self.kinds(Y, B), (LV, LV))
        self.assertEqual(self.kinds(("eq", Y, ("int", 3)), (LV, Z), ("int", 1)), (BOOL, LV, LV))
        self.assertEqual(self.kinds(Y, Z, X[:1] + ("b",)), (LV, LV, LV))
        self.opens("x", Y, Z, X)
        self.clash(1, ("add", Y, ("int", 1)), (BOOL, A))
        self.clash(1, ("add", Y, ("int", 11)), B)
        self.clash(2, ("add", Y, B), ("pick", A, Z, Z), A)
        # What a later equation tells does not count for the least number.
        self.clash(2, ("eq", Y, B), ("last", Z, ()), (BOOL, A))

    def test_operations(self):
        row = ("row", LV, 3)
        self.assertEqual(self.kinds(("row", B, ("int", 1), B), ("put", X, B, ("int", 3)),
                                    ("at", X, ("sum", Y))), (row, row, LV))
        self.assertEqual(self.kinds(("all", ("row", A)), ("any", ("row", X, A))), (BOOL, BOOL))
        self.assertEqual(self.kinds(("as", B, WIDE), ("le", B, ("int", 3)), ("vote", C, C, C)),
                         (WIDE, BOOL, ("mode", ("p", "q"))))
        self.clash(0, ("not", B))
        self.clash(0, ("lt", A, A))
        self.clash(0, ("add", C, C))
        self.clash(0, ("add", B, ("name", "l")))
        self.clash(0, ("eq", A, B))
        self.clash(0, ("pick", B, A, A))
        self.clash(0, ("row", ("name", "r")))
        self.clash(0, ("at", B, B))
        self.clash(0, ("at", ("name", "r"), A))
        self.clash(0, ("put", ("name", "r"), B, A))
        self.clash(0, ("put", ("name", "r"), A, B))
        self.assertEqual(self.kinds(("put", ("row", A, A), B, A)), (("row", BOOL, 2),))
        self.clash(0, ("sum", ("row", A)))
        self.clash(0, ("any", ("name", "r")))
        self.clash(0, ("as", C, LV))
        self.clash(0, ("as", ("name", "r"), LV))

    def test_open_parts(self):
        self.opens("x", ("eq", ("int", 1), ("int", 2)))
        self.opens("y", B, ("lt", ("int", 1), ("int", 2)))
        self.opens("x", ("as", ("int", 1), LV))
        self.opens("x", ("at", Y, B), ("last", Y, ()))
        self.opens("y", A, ("last", Y, ()))
        # The entry is known, the size is not.
        self.opens("x", ("eq", B, ("at", Y, B)), ("last", Y, ()))
        self.assertEqual(self.kinds(("eq", B, ("at", Y, B)), ("then", Y, ("row", B, B), ())),
                         (BOOL, ("row", LV, 2)))
        self.opens("y", A, ("eq", ("row", ("int", 1)), Z), ("last", Z, ()))

    def test_rows(self):
        self.clash(0, ("eq", ("row", B), ("row", B, B)))
        self.assertEqual(self.kinds(("at", Y, B), ("last", Y, ()), ("eq", ("name", "r"), Y)),
                         (LV, ("row", LV, 3), BOOL))
        self.assertEqual(self.kinds(("at", Y, B), ("last", Y, ()), ("eq", Y, ("name", "r"))),
                         (LV, ("row", LV, 3), BOOL))
        self.clash(1, ("eq", Y, ("row", B)), ("row", B, B))
        self.clash(0, ("eq", ("row", B), ("row", A)))
        self.clash(0, ("at", ("at", ("name", "r"), B), B))
        self.clash(1, ("eq", ("row", Y), ("row", Y)), ("row", A))

    def test_streams(self):
        zero, one = ("truth", 0), ("truth", 1)
        arms = ((zero, ("int", 3)), (one, B))
        p, q = (("mode", ("p", "q"), at) for at in range(2))
        self.assertEqual(self.kinds(("merge", "a", arms), ("merge", "c", ((p, X), (q, B)))), (LV, LV))
        self.assertEqual(self.kinds(("weave", ("int", 1), B), ("fresh", "e", 3, ("int", 9)),
                                    ("then", ("int", 1), ("last", Y, ()), ())), (LV, LV, LV))
        self.assertEqual(self.kinds(("when", B, ("is", "a", one)),
                                    ("held", ("int", 1), X, ("is", "a", one), ()),
                                    ("held", Y, B, ("every", 2, 0, None), ())), (LV, LV, LV))
        self.clash(0, ("merge", "c", arms))
        self.clash(0, ("merge", "a", ((zero, A), (one, B))))
        self.clash(0, ("when", B, ("is", "c", one)))
        self.clash(0, ("when", B, ("is", "a", p)))
        self.clash(0, ("held", A, B, ("every", 2, 0, None), ()))
        self.clash(0, ("held", B, B, ("is", "b", one), ()))
        self.clash(0, ("weave", A, B))
        self.clash(0, ("then", A, B, ()))
        self.clash(0, ("fresh", "e", 3, A))
        self.clash(0, ("fresh", "e", 3, ("int", 10)))
        # A layer tells the kind of its name.
        self.assertEqual(self.kinds(("when", B, ("is", "y", one)), ("last", Y, ())), (LV, BOOL))

    def test_programs(self):
        text = ("kind k = num 0..5 per 2 wrap; unit t(a: k) gives (x: k) { local l; l = x + 1; "
                "x = 2 then last l; local m; m = row(l, 3); keep sum(m) < 4; }")
        self.assertEqual(kinds_of(flatten(read_program(text))), (
            ("num", 0, 5, 2, "wrap"), ("num", 0, 5, 2, "wrap"),
            ("row", ("num", 0, 5, 2, "wrap"), 2), BOOL))

    def test_long_exprs(self):
        expr = B
        for _ in range(3000):
            expr = ("add", expr, ("int", 1))
        self.assertEqual(self.kinds(expr), (LV,))


OPS = (("not", 1), ("and", 2), ("eq", 2), ("lt", 2), ("neg", 1), ("add", 2), ("mid", 3), ("pick", 3),
       ("vote", 3), ("row", 1), ("row", 2), ("at", 2), ("put", 3), ("sum", 1), ("any", 1))


def random_expr(rng, names, depth):
    if depth == 0 or rng.random() < 0.2:
        return rng.choice([("int", 1), ("int", 7), ("truth", 1), ("mode", ("a",), 0)]
                          + [("name", name) for name in names] * 2)

    def inner():
        return random_expr(rng, names, depth - 1)
    layer = rng.choice([("every", 2, 0, None), ("is", rng.choice(names), ("truth", 1)),
                        ("is", rng.choice(names), ("mode", ("a",), 0))])
    op, count = rng.choice(OPS)
    return rng.choice([
        (op,) + tuple(inner() for _ in range(count)), (op,) + tuple(inner() for _ in range(count)),
        (op,) + tuple(inner() for _ in range(count)), ("as", inner(), rng.choice([WIDE, TINY])),
        ("last", inner(), ()), ("then", inner(), inner(), ()), ("when", inner(), layer),
        ("held", inner(), inner(), layer, ()), ("weave", inner(), inner()),
        ("merge", rng.choice(names), ((("truth", 0), inner()), (("truth", 1), inner()))),
        ("fresh", "e", 2, inner())])


def random_flat(rng):
    inputs = (("a", rng.choice(PLAIN), 0), ("b", rng.choice(CHOICE), 0),
              ("e", rng.choice([WIDE, BOOL, HALF]), 1))
    eqs = []
    for name in ("x", "y"):
        told = rng.choice([None, None, rng.choice(PLAIN)])
        eqs.append((name, told, None, 0, random_expr(rng, ["a", "b", "x", "y", "e", "e@here"], 2)))
    return ("flat", inputs, tuple(eqs), ("x",), (), ())


class AllAssignments(unittest.TestCase):
    def test_random_ones(self):
        rng = random.Random(11)
        told = {"clash": 0, "open": 0, "kinds": 0}
        for _ in range(400):
            made = random_flat(rng)
            slow = SlowKinds(made)
            clash = slow.clash()
            if clash is not None:
                with self.assertRaises(KindClash) as caught:
                    kinds_of(made)
                self.assertEqual(caught.exception.at, clash, made)
                told["clash"] += 1
                continue
            name, kinds = slow.open_name()
            if name is not None:
                with self.assertRaises(KindOpen) as caught:
                    kinds_of(made)
                self.assertEqual(caught.exception.name, name, made)
                told["open"] += 1
            else:
                self.assertEqual(kinds_of(made), kinds)
                told["kinds"] += 1
        self.assertGreater(min(told.values()), 10, told)


if __name__ == "__main__":
    unittest.main()
