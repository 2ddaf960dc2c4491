import itertools
import random
import unittest

from keepsgoing.errors import Ring, TooMany, Unsettled
from keepsgoing.flatrings import check_rings, settle
from keepsgoing.flatten import flatten
from keepsgoing.reading import read_program

BOOL = ("bool",)
LV = ("num", 0, 9, 1, "hold")
NO, YES = ("truth", 0), ("truth", 1)
INPUTS = tuple((f"i{at}", BOOL, 0) for at in range(10)) + (("n", LV, 0), ("e", BOOL, 1))
A, B, C = ("name", "i0"), ("name", "i1"), ("name", "i2")
X, Y, Z, W = (("name", each) for each in "xyzw")


def flat(*exprs, inputs=INPUTS):
    """Equations x, y, z, w of kind bool, but those that stand beside another kind."""
    eqs = []
    for name, expr in zip("xyzw", exprs):
        kind, expr = expr if isinstance(expr[0], tuple) else (BOOL, expr)
        eqs.append((name, kind, None, 0, expr))
    eqs = tuple(eqs)
    return ("flat", inputs, eqs, ("x",), (), ())


class Checks(unittest.TestCase):
    def right(self, *exprs):
        self.assertIsNone(check_rings(flat(*exprs)))

    def ring(self, names, *exprs):
        with self.assertRaises(Ring) as caught:
            check_rings(flat(*exprs))
        self.assertEqual(caught.exception.names, tuple(names))

    def many(self, *exprs):
        with self.assertRaises(TooMany) as caught:
            check_rings(flat(*exprs))
        self.assertEqual(caught.exception.part, "ring")

    def unsettled(self, names, truths, *exprs):
        with self.assertRaises(Unsettled) as caught:
            check_rings(flat(*exprs))
        self.assertEqual((caught.exception.names, caught.exception.truths), (tuple(names), truths))


class Knots(Checks):
    def test_no_knots(self):
        self.right(A, X, ("not", Y))
        self.right(("last", X, ()), ("and", ("last", Y, ()), X))
        self.right(("then", YES, ("last", X, ()), ()))
        self.right(("last", ("not", Y), ()), ("not", X))

    def test_rings_that_settle(self):
        self.right(("pick", A, B, Y), ("pick", A, X, C))
        self.right(("pick", X, YES, YES))
        self.right(("and", X, NO))
        self.right(("and", ("or", X, Y), NO), ("or", ("xor", X, X), B))
        self.right(("pick", A, B, ("not", Y)), ("pick", A, ("not", X), ("last", X, ())))

    def test_rings_that_are_not_let(self):
        two = ("every", 2, 0, None)
        self.ring("x", (LV, ("add", X, ("name", "n"))))
        self.ring("x", ("eq", X, YES))
        self.ring("xy", ("any", ("row", Y)), X)
        self.ring("x", ("vote", X, X, A))
        self.ring("x", ("then", A, X, ()))
        self.ring("x", ("then", X, A, ()))
        self.ring("x", ("weave", ("when", X, two), ("when", A, ("every", 2, 1, None))))
        self.ring("x", ("merge", "x", ((NO, ("when", A, ("is", "x", NO))), (YES, YES))))
        self.ring("x", ("held", A, ("when", A, ("is", "x", YES)), ("is", "x", YES), ()))
        self.ring("x", ("held", X, ("when", A, two), two, ()))
        self.ring("xz", (LV, ("pick", A, Z, Z)), A, (LV, ("mid", X, ("name", "n"), ("name", "n"))))
        self.ring("x", ("fresh", "e", 2, X))
        self.ring("xy", ("merge", "y", ((NO, NO), (YES, YES))), X)
        self.ring("xy", ("held", A, YES, ("is", "y", YES), ()), X)
        self.ring("x", ("eq", ("pick", A, X, NO), B))

    def test_equations_of_other_kinds(self):
        # Made of names of the knot alone, but not of kind bool.
        self.ring("xy", (LV, Y), (LV, X))
        self.ring("x", (LV, ("pick", A, X, ("name", "n"))))

    def test_order_of_knots(self):
        self.ring("x", ("eq", X, YES), ("eq", Y, YES))
        self.ring("xw", ("not", ("eq", W, YES)), ("eq", Y, YES), A, X)
        self.unsettled("y", (), A, ("not", Y), ("eq", Z, YES))
        self.ring("y", A, ("eq", Y, YES), ("not", Z))
        self.ring("xw", ("eq", W, A), ("eq", Z, A), Y, X)

    def test_resets_hang(self):
        self.ring("x", ("last", A, ("x",)))
        self.ring("xy", ("last", A, ("y",)), X)
        self.ring("xy", ("and", A, ("last", ("last", B, ("y",)), ())), X)
        self.ring("xy", ("then", A, B, ("y",)), ("not", X))
        self.ring("xy", ("held", A, ("when", A, ("is", "i1", YES)), ("is", "i1", YES), ("y",)), X)
        self.right(("last", X, ("y",)), ("not", A))

    def test_layers_hang(self):
        on = ("is", "y", YES)
        self.ring("xy", ("held", A, ("when", A, on), on, ()), X)
        # The layer stands within a last.
        self.right(("last", ("held", A, ("when", A, on), on, ()), ()), X)
        self.right(("last", ("merge", "y", ((NO, ("when", A, ("is", "y", NO))), (YES, NO))), ()), X)

    def test_layers_of_clocks_hang(self):
        # z hangs on y by its clock alone.
        on = ("is", "y", YES)
        merged = ("merge", "y", ((NO, ("when", A, ("is", "y", NO))), (YES, Z)))
        self.ring("yz", merged, ("not", ("held", A, Z, on, ())), ("when", A, on))
        self.right(merged, ("last", ("held", A, Z, on, ()), ()), ("when", A, on))
        self.ring("yz", A, ("not", ("held", A, Z, on, ())), YES)

    def test_loose_inputs(self):
        # The loose input l has the clock of y, so it hangs on z.
        on = ("is", "z", YES)
        inputs = INPUTS + (("l", BOOL, "y"), ("k", BOOL, "i0"), ("j", BOOL, "l"))
        exprs = (("held", A, ("name", "l"), on, ()), ("when", B, on), X)
        with self.assertRaises(Ring) as caught:
            check_rings(flat(*exprs, inputs=inputs))
        self.assertEqual(caught.exception.names, ("x", "z"))
        self.assertIsNone(check_rings(flat(*exprs[:2], A, inputs=inputs)))


class Bounds(Checks):
    def nested(self, parts):
        """An expr of x with these parts, and one operation less than parts."""
        expr = parts[-1]
        for part in reversed(parts[:-1]):
            expr = ("pick", X, part, expr)
        return expr

    def nots(self, many, expr):
        for _ in range(many):
            expr = ("not", expr)
        return expr

    def test_greatest_free_parts(self):
        free = ("and", ("not", A), ("or", B, YES))
        self.unsettled("x", (0,), ("or", free, X))
        self.unsettled("x", (0,), ("or", ("not", YES), X))
        self.unsettled("x", (0,), ("or", ("eq", ("name", "n"), ("int", 3)), X))
        self.unsettled("x", (0, 0), ("or", ("last", X, ()), ("or", ("last", ("not", X), ()), X)))

    def test_eight_and_nine(self):
        ins = [("name", f"i{at}") for at in range(9)]
        self.unsettled("x", (0,) * 7 + (1,), self.nested(ins[:8]))
        self.many(self.nested(ins))
        # Equal parts count once, truths do not count.
        self.unsettled("x", (0,) * 7 + (1,), self.nested(ins[:8] + ins[:2]))
        self.unsettled("x", (0,) * 8, self.nested(ins[:8] + [YES]))
        self.right(("and", NO, self.nested(ins[:8])))
        self.many(("and", NO, self.nested(ins)))

    def test_twelve_and_thirteen(self):
        self.unsettled("x", (), self.nots(12, X))
        self.many(self.nots(13, X))
        # Operations that are free do not count, each place of the others does.
        self.unsettled("x", (0,), ("xor", self.nots(11, X), self.nots(20, A)))
        self.unsettled("x", (), ("xor", self.nots(5, X), self.nots(6, X)))
        self.many(("xor", self.nots(6, X), self.nots(6, X)))

    def test_over_all_names(self):
        self.unsettled("xy", (), self.nots(6, Y), self.nots(6, X))
        self.many(self.nots(6, Y), self.nots(7, X))
        # Other knots, and equations in no knot, do not count.
        self.unsettled("z", (), A, self.nots(20, A), self.nots(6, Z), self.nots(7, W))
        ins = [("name", f"i{at}") for at in range(9)]
        self.unsettled("xy", (0, 0, 0, 1) * 2, ("and", Y, self.nested(ins[:4])),
                       self.nested(ins[4:8]))
        self.many(("and", Y, self.nested(ins[:4])), self.nested(ins[4:]))

    def test_order_of_faults(self):
        ins = [("name", f"i{at}") for at in range(9)]
        self.ring("x", ("and", self.nested(ins), ("eq", X, A)))
        self.ring("y", A, ("eq", Y, A), ("not", Z))
        self.many(self.nested(ins), ("eq", Y, A))


class Settling(Checks):
    def test_unsettled(self):
        self.unsettled("x", (), ("not", X))
        self.unsettled("x", (0,), ("or", A, X))
        self.unsettled("x", (1,), ("and", A, X))
        self.unsettled("xy", (0,), ("or", Y, A), X)
        self.unsettled("x", (0, 1), ("pick", X, A, B))
        self.unsettled("x", (0, 0), ("pick", A, B, X))
        self.unsettled("xy", (0, 0, 1), ("pick", A, B, Y), ("pick", C, X, B))
        self.unsettled("xy", (0, 0), ("or", ("last", A, ()), Y), ("or", B, X))

    def test_entering_parts_in_order(self):
        # b, then a: the least truths are those of b first.
        self.unsettled("xy", (0, 1), ("pick", B, A, Y), ("and", A, X))
        self.unsettled("xy", (1, 0), ("and", A, Y), ("pick", B, A, X))
        self.unsettled("xy", (1, 0), ("and", A, Y), ("or", X, B))

    def test_programs(self):
        text = """unit t(a: bool, b: bool) gives (x: bool, y: bool) {
          x = pick(a, b, not y); y = pick(a, x, b); }"""
        self.assertIsNone(check_rings(flatten(read_program(text))))
        with self.assertRaises(Unsettled) as caught:
            check_rings(flatten(read_program(text.replace("x, b)", "b, x)"))))
        self.assertEqual(caught.exception.names, ("x", "y"))
        self.assertEqual(caught.exception.truths, (0, 0))


class Settle(unittest.TestCase):
    def test_tables(self):
        three = (0, 1, None)
        names = ("p", "q", "r")

        def truths_of(values):
            # A name that hangs on itself stays unknown.
            return tuple(("name", name) if value is None else ("truth", value)
                         for name, value in zip(names, values))

        def last_of(expr, values):
            return settle(names + ("x",), truths_of(values) + (expr,), (), ())[3]
        p, q, r = (("name", name) for name in names)
        for a, b, c in itertools.product(three, repeat=3):
            values = (a, b, c)
            self.assertEqual(last_of(("not", p), values), None if a is None else 1 - a)
            both = (a, b)
            wanted = 0 if 0 in both else None if None in both else 1
            self.assertEqual(last_of(("and", p, q), values), wanted)
            wanted = 1 if 1 in both else None if None in both else 0
            self.assertEqual(last_of(("or", p, q), values), wanted)
            self.assertEqual(last_of(("xor", p, q), values), None if None in both else a ^ b)
            wanted = b if a == 1 else c if a == 0 else b if b == c else None
            self.assertEqual(last_of(("pick", p, q, r), values), wanted)

    def test_parts(self):
        self.assertEqual(settle(("x",), (("and", A, ("not", X)),), (A,), (0,)), (0,))
        self.assertEqual(settle(("x",), (("and", A, ("not", X)),), (A,), (1,)), (None,))
        # What stands in parts has its truth, whatever it is made of.
        self.assertEqual(settle(("x", "y"), (("not", X), X), (("not", X),), (1,)), (1, 1))
        self.assertEqual(settle(("x", "y"), (Y, X), (Y,), (1,)), (1, 1))
        self.assertEqual(settle(("x", "y"), (NO, X), (NO, X), (1, 0)), (1, 0))
        self.assertEqual(settle(("x",), (("last", X, ()),), (("last", X, ()),), (1,)), (1,))
        self.assertEqual(settle((), (), (), ()), ())
        self.assertEqual(settle(("x", "y"), (A, ("xor", B, X)), (A, B), (1, 0)), (1, 1))

    def test_random_ones(self):
        """What is told is kept: the least truths that fit, whatever the order of the equations."""
        rng = random.Random(2)

        def expr(depth):
            if depth == 0:
                return rng.choice([X, Y, Z, A, B, YES, NO])
            return rng.choice([("not", expr(depth - 1)), ("and", expr(depth - 1), expr(depth - 1)),
                               ("or", expr(depth - 1), expr(depth - 1)),
                               ("xor", expr(depth - 1), expr(depth - 1)),
                               ("pick", expr(depth - 1), expr(depth - 1), expr(depth - 1))])
        for _ in range(150):
            exprs = [expr(2) for _ in range(3)]
            for truths in itertools.product((0, 1), repeat=2):
                told = settle(("x", "y", "z"), tuple(exprs), (A, B), truths)
                turned = settle(("z", "y", "x"), tuple(reversed(exprs)), (A, B), truths)
                self.assertEqual(told, tuple(reversed(turned)))
                self.check_fits(exprs, truths, told)

    def check_fits(self, exprs, truths, told):
        """Each known truth is the only one in all ways to give the names truths that fit."""
        def worth(expr, named):
            if expr[0] == "truth":
                return expr[1]
            if expr[0] == "name":
                return named[expr[1]]
            inner = [worth(part, named) for part in expr[1:]]
            if expr[0] == "not":
                return 1 - inner[0]
            if expr[0] == "pick":
                return inner[1] if inner[0] else inner[2]
            a, b = inner
            return {"and": a & b, "or": a | b, "xor": a ^ b}[expr[0]]
        for values in itertools.product((0, 1), repeat=3):
            named = dict(zip(("i0", "i1"), truths), **dict(zip("xyz", values)))
            if all(worth(each, named) == value for each, value in zip(exprs, values)):
                for known, value in zip(told, values):
                    self.assertIn(known, (None, value))


if __name__ == "__main__":
    unittest.main()
