import random
import unittest

from keepsgoing.errors import Unset
from keepsgoing.flatten import flatten
from keepsgoing.reading import read_program
from keepsgoing.starts import check_starts, grades_of, is_started

BOOL = ("bool",)
NO, YES = ("truth", 0), ("truth", 1)
INPUTS = tuple((name, BOOL, 0) for name in "abrsu") + (("e", BOOL, 1),)
A, B, R = ("name", "a"), ("name", "b"), ("name", "r")
X, Y, Z = ("name", "x"), ("name", "y"), ("name", "z")
LAST = ("last", A, ())
FROM_R = ("last", A, ("r",))
FROM_S = ("last", A, ("s",))
ANY = ("last", LAST, ())
TWO = ("every", 2, 0, None)


def flat(*exprs, shown="", assumes="", keeps=""):
    eqs = tuple((name, BOOL, None, 0, expr) for name, expr in zip("xyzw", exprs))
    return ("flat", INPUTS, eqs, tuple(shown), tuple(assumes), tuple(keeps))


class Grades(unittest.TestCase):
    def grade(self, *exprs):
        return grades_of(flat(*exprs))[0]

    def test_leaves(self):
        for leaf in (A, ("name", "e"), ("name", "e@here"), YES, ("int", 3), ("mode", ("p",), 0)):
            self.assertEqual(self.grade(leaf), "set")
        self.assertEqual(self.grade(Y, ANY), "any")
        self.assertEqual(self.grade(Y, FROM_R), ("r",))

    def test_lasts(self):
        self.assertEqual(self.grade(LAST), ())
        self.assertEqual(self.grade(FROM_R), ("r",))
        self.assertEqual(self.grade(("last", A, ("s", "b", "r"))), ("b", "r", "s"))
        self.assertEqual(self.grade(("last", A, ("s", "b", "s"))), ("b", "s"))
        self.assertEqual(self.grade(ANY), "any")
        self.assertEqual(self.grade(("last", FROM_R, ("r",))), "any")
        self.assertEqual(self.grade(("last", ANY, ("r",))), "any")

    def test_operations(self):
        self.assertEqual(self.grade(("and", A, YES)), "set")
        self.assertEqual(self.grade(("and", A, LAST)), ())
        self.assertEqual(self.grade(("and", FROM_R, A)), ("r",))
        self.assertEqual(self.grade(("pick", FROM_S, LAST, FROM_R)), ("r", "s"))
        self.assertEqual(self.grade(("pick", FROM_S, ("last", A, ("s", "b")), A)), ("b", "s"))
        self.assertEqual(self.grade(("or", FROM_R, ANY)), "any")
        self.assertEqual(self.grade(("as", FROM_R, BOOL)), ("r",))
        self.assertEqual(self.grade(("when", FROM_R, TWO)), ("r",))
        self.assertEqual(self.grade(("when", A, TWO)), "set")

    def test_thens(self):
        self.assertEqual(self.grade(("then", A, LAST, ())), "set")
        self.assertEqual(self.grade(("then", A, B, ())), "set")
        self.assertEqual(self.grade(("then", A, FROM_R, ("r",))), "set")
        self.assertEqual(self.grade(("then", A, FROM_R, ("s", "r"))), "set")
        self.assertEqual(self.grade(("then", A, FROM_R, ())), ("r",))
        self.assertEqual(self.grade(("then", A, FROM_R, ("s",))), ("r",))
        self.assertEqual(self.grade(("then", FROM_S, ("last", A, ("r",)), ())), ("r", "s"))
        self.assertEqual(self.grade(("then", FROM_S, FROM_R, ("r",))), ("s",))
        self.assertEqual(self.grade(("then", LAST, LAST, ())), ())
        self.assertEqual(self.grade(("then", A, ANY, ("r",))), "any")
        self.assertEqual(self.grade(("then", ANY, A, ("r",))), "any")

    def test_joins_of_streams(self):
        def merge(one, two):
            return ("merge", "b", ((NO, one), (YES, two)))
        for word in (merge, lambda one, two: ("weave", one, two)):
            self.assertEqual(self.grade(word(A, YES)), "set")
            self.assertEqual(self.grade(word(A, LAST)), "any")
            self.assertEqual(self.grade(word(FROM_R, A)), "any")
        self.assertEqual(self.grade(("held", A, B, TWO, ())), "set")
        self.assertEqual(self.grade(("held", FROM_R, B, TWO, ())), ("r",))
        self.assertEqual(self.grade(("held", ANY, B, TWO, ())), "any")
        self.assertEqual(self.grade(("held", A, LAST, TWO, ("r",))), "any")
        self.assertEqual(self.grade(("fresh", "e", 2, A)), "set")
        self.assertEqual(self.grade(("fresh", "e", 2, FROM_R)), ("r",))
        self.assertEqual(self.grade(("fresh", "e", 2, ANY)), "any")

    def test_least_ones(self):
        self.assertEqual(grades_of(flat(("then", A, ("last", X, ()), ()))), ("set",))
        self.assertEqual(grades_of(flat(("and", A, ("last", X, ())))), ("any",))
        self.assertEqual(grades_of(flat(("and", X, A))), ("set",))
        self.assertEqual(grades_of(flat(("last", Y, ()), ("then", A, X, ()))), ((), "set"))
        self.assertEqual(grades_of(flat(("last", Y, ()), ("then", X, A, ()))), ("any", "any"))
        self.assertEqual(grades_of(flat(Y, Z, ("and", Y, FROM_R))), (("r",),) * 3)

    def test_long_chains(self):
        eqs = [(f"x{at}", BOOL, None, 0, ("not", ("name", f"x{at + 1}"))) for at in range(299)]
        eqs.append(("x299", BOOL, None, 0, LAST))
        self.assertEqual(grades_of(("flat", INPUTS, tuple(eqs), ("x0",), (), ())), ((),) * 300)
        expr = LAST
        for _ in range(3000):
            expr = ("not", expr)
        self.assertEqual(self.grade(expr), ())


class Checks(unittest.TestCase):
    def right(self, *exprs, **shown):
        self.assertIsNone(check_starts(flat(*exprs, **shown)))
        self.assertIs(is_started(flat(*exprs, **shown)), True)

    def unset(self, name, *exprs, **shown):
        with self.assertRaises(Unset) as caught:
            check_starts(flat(*exprs, **shown))
        self.assertEqual(caught.exception.name, name)
        self.assertIs(is_started(flat(*exprs, **shown)), False)

    def test_what_is_shown(self):
        self.right(LAST, A, shown="y")
        self.unset("x", LAST, A, shown="yx")
        self.unset("x", LAST, A, assumes="x")
        self.unset("x", LAST, A, keeps="x")
        self.unset("y", LAST, ANY, FROM_R, shown="y", assumes="x", keeps="z")
        self.unset("z", LAST, A, FROM_R, shown="y", assumes="z", keeps="x")

    def test_resets(self):
        self.unset("x", LAST, ("last", A, ("x",)))
        self.unset("x", LAST, ("then", A, A, ("r", "x")))
        self.unset("x", LAST, ("held", A, A, TWO, ("x",)))
        self.unset("x", LAST, ("last", ("last", A, ("x",)), ()))
        self.right(A, ("last", A, ("x",)))

    def test_layers_and_merges(self):
        on = ("is", "x", YES)
        self.unset("x", LAST, ("when", A, on))
        self.unset("x", LAST, ("last", ("when", A, on), ()))
        self.unset("x", LAST, ("held", A, A, on, ()))
        self.unset("x", LAST, ("merge", "x", ((NO, A), (YES, B))))
        self.unset("x", LAST, ("last", ("merge", "x", ((NO, A), (YES, B))), ()))
        self.right(A, ("when", A, on), ("merge", "x", ((NO, A), (YES, B))))
        self.right(LAST, ("when", X, TWO))
        # A home is no name in a layer.
        self.right(LAST, ("when", A, ("every", 2, 0, "x")))

    def test_from_left_to_right(self):
        two = [LAST, ANY]

        def on(name):
            return ("is", name, YES)
        self.unset("y", *two, ("last", ("last", A, ("y",)), ("x",)))
        self.unset("y", *two, ("held", ("when", A, on("y")), A, on("x"), ()))
        self.unset("y", *two, ("held", A, A, on("y"), ("x",)))
        self.unset("y", *two, ("when", ("last", A, ("y",)), on("x")))
        self.unset("y", *two, ("merge", "y", ((NO, ("when", A, on("x"))), (YES, A))))
        self.unset("x", *two, ("merge", "a", ((NO, ("when", A, on("x"))), (YES, ("when", A, on("y"))))))
        self.unset("y", *two, ("then", ("last", A, ("y",)), ("last", A, ("x",)), ("x",)))
        self.unset("x", *two, ("and", ("not", ("when", A, on("x"))), ("last", A, ("y",))))
        self.unset("x", *two, ("last", A, ("r", "x", "y")))
        self.unset("y", *two, ("when", A, on("y")), ("when", A, on("x")))
        self.unset("x", *two, ("when", A, on("y")), shown="x")

    def test_programs(self):
        text = ("unit t(a: bool, b: bool) gives (x: bool) { local l; l = last a; "
                "machine m { state s { x = STATE; until a go s; until b back s; } } }")
        for state, good in (("a", True), ("false then last a", True), ("last a", False),
                            ("a then l", True), ("l", False), ("a and (b then last x)", True)):
            made = flatten(read_program(text.replace("STATE", state)))
            self.assertIs(is_started(made), good, state)
            if not good:
                with self.assertRaises(Unset) as caught:
                    check_starts(made)
                self.assertEqual(caught.exception.name, "x")

    def test_random_ones(self):
        """Grades that are worked out for all names at once, from the least ones on, are the same."""
        rng = random.Random(9)
        names = ["a", "r", "x", "y", "z", "w"]

        def expr(depth):
            if depth == 0:
                return ("name", rng.choice(names))
            resets = tuple(rng.sample(["r", "s"], rng.choice([0, 1, 2])))
            return rng.choice([
                ("not", expr(depth - 1)), ("and", expr(depth - 1), expr(depth - 1)),
                ("last", expr(depth - 1), resets), ("then", expr(depth - 1), expr(depth - 1), resets),
                ("then", expr(depth - 1), expr(depth - 1), resets), ("weave", expr(depth - 1)),
                ("held", expr(depth - 1), expr(depth - 1), TWO, resets)])
        for _ in range(200):
            made = flat(*[expr(3) for _ in range(4)])
            self.assertEqual(grades_of(made), self.slow_grades(made))

    def slow_grades(self, made):
        grades = {eq[0]: "set" for eq in made[2]}
        while True:
            new = {eq[0]: self.slow_grade(eq[4], grades) for eq in made[2]}
            if new == grades:
                return tuple(grades.values())
            grades = new

    def slow_grade(self, expr, grades):
        word = expr[0]
        if word == "name":
            return grades.get(expr[1], "set")
        if word == "last":
            good = self.slow_grade(expr[1], grades) == "set"
            return tuple(sorted(expr[2])) if good else "any"
        inner = [self.slow_grade(part, grades) for part in expr[1:3] if isinstance(part[0], str)]
        if word == "then":
            if inner[1] == "set" or inner[1] != "any" and set(inner[1]) <= set(expr[3]):
                return inner[0]
        if word == "held":
            return inner[0] if inner[1] == "set" else "any"
        if word == "weave":
            return "set" if inner[0] == "set" else "any"
        if "any" in inner:
            return "any"
        tuples = [set(grade) for grade in inner if grade != "set"]
        return tuple(sorted(set().union(*tuples))) if tuples else "set"


if __name__ == "__main__":
    unittest.main()
