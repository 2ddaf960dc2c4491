import random
import unittest

from keepsgoing.checking import checked
from keepsgoing.clocksof import part_clocks
from keepsgoing.errors import CheckFault, LimitFault
from keepsgoing.exprparts import listed
from keepsgoing.flatruns import FlatRun, lasts_of
from keepsgoing.flatten import flatten
from keepsgoing.kinds import values_of, zero
from keepsgoing.reading import read_program
from keepsgoing.treeruns import ProgramRun
from tests.flatoracle import FlatOracle
from tests.randomflats import flat_rows, random_flat, resets_fit
from tests.randomprograms import random_program, random_rows
from tests.runchecks import check_no_state, check_ticks

BOOL = ("bool",)
LV = ("num", 0, 99, 1, "hold")
MODE = ("mode", ("p", "q", "r"))
ROW = ("row", LV, 2)
NO, YES = ("truth", 0), ("truth", 1)
INPUTS = (("a", LV, 0), ("b", BOOL, 0), ("c", BOOL, 0), ("m", MODE, 0), ("e", LV, 1), ("f", BOOL, 1))
A, B, C, M, E = (("name", name) for name in "abcme")
X = ("name", "x")
ON, OFF = ("is", "b", YES), ("is", "b", NO)


def flat(*exprs, inputs=INPUTS, shown="x"):
    """Equations x, y, z, w: an expr, or a kind and an expr."""
    eqs = []
    for name, expr in zip("xyzw", exprs):
        kind, expr = expr if isinstance(expr[0], tuple) else (None, expr)
        eqs.append((name, kind, None, 0, expr))
    return ("flat", inputs, tuple(eqs), tuple(shown), (), ())


class Runs(unittest.TestCase):
    def shows(self, made, rows, wanted):
        """What the flat run shows; all inputs that a row leaves out are 0, or do not come."""
        checked(made)
        given = []
        for row in rows:
            given.append(tuple(row.get(name, None if event == 1 else zero(kind))
                               for name, kind, event in made[1]))
        self.assertEqual(list(FlatRun(made).ticks(given)), [(value,) for value in wanted])
        self.assertEqual(FlatOracle(made, given).shown(), [(value,) for value in wanted])


def rows(**columns):
    return [dict(zip(columns, each)) for each in zip(*columns.values())]


class Forms(Runs):
    def test_leaves_and_operations(self):
        told = rows(a=(1, 2, 50), b=(0, 1, 1), m=(0, 2, 1), e=(None, 7, 8))
        self.shows(flat((LV, ("int", 7))), told, [7, 7, 7])
        self.shows(flat(NO), told, [0, 0, 0])
        self.shows(flat(("mode", MODE[1], 2)), told, [2, 2, 2])
        self.shows(flat(E), told, [None, 7, 8])
        self.shows(flat(("name", "e@here")), told, [0, 1, 1])
        self.shows(flat(("add", A, A)), told, [2, 4, 99])
        self.shows(flat(("as", A, ("num", 0, 9, 10, "wrap"))), told, [0, 0, 0])
        self.shows(flat(("eq", M, ("mode", MODE[1], 2))), told, [0, 1, 0])
        self.shows(flat(("put", ("row", A, ("int", 3)), A, ("sub", A, ("int", 1)))), told,
                   [(1, 0), (2, 3), (50, 3)])
        self.shows(flat(("add", E, ("int", 1))), told, [None, 8, 9])

    def test_last_and_then(self):
        told = rows(a=(1, 2, 3, 4), b=(0, 1, 0, 1))
        self.shows(flat(("then", ("int", 9), ("last", A, ()), ())), told, [9, 1, 2, 3])
        self.shows(flat(("then", A, ("add", ("last", X, ()), A), ())), told, [1, 3, 6, 10])
        sampled = ("when", A, ON)
        self.shows(flat(("then", ("int", 9), ("last", sampled, ()), ())), told, [None, 9, None, 2])
        self.shows(flat(("then", ("int", 9), ("last", ("then", ("int", 8), ("last", A, ()), ()), ()),
                         ())), told, [9, 8, 1, 2])

    def test_last_of_what_is_worked_out_later(self):
        # The part in last is worked out behind all names, also when it is made of later ones.
        told = rows(a=(1, 2, 3, 4))
        self.shows(flat(("then", ("int", 9), ("last", ("add", ("name", "y"), X), ()), ()), A),
                   told, [9, 10, 12, 15])

    def test_not_picked(self):
        told = rows(b=(0, 1, 0, 1))
        count = ("then", ("int", 1), ("add", ("last", ("name", "y"), ()), ("int", 1)), ())
        self.shows(flat(("pick", B, ("then", ("int", 50), ("int", 60), ()), ("name", "y")), (LV, count)),
                   told, [1, 60, 3, 60])

    def test_held(self):
        told = rows(a=(1, 2, 3, 4, 5, 6), b=(0, 1, 0, 0, 1, 0))
        self.shows(flat(("held", ("int", 9), ("when", A, ON), ON, ())), told, [9, 2, 2, 2, 5, 5])
        self.shows(flat(("held", A, ("when", ("int", 50), ON), ON, ())), told, [1, 50, 50, 50, 50, 50])
        q = ("is", "m", ("mode", MODE[1], 1))
        self.shows(flat(("held", ("int", 9), ("when", A, q), q, ())),
                   rows(a=(1, 2, 3, 4, 5), m=(0, 1, 2, 1, 0)), [9, 2, 2, 4, 4])

    def test_merge_and_weave(self):
        told = rows(a=(1, 2, 3, 4, 5), b=(0, 1, 0, 1, 1), m=(2, 0, 1, 1, 2))
        merged = ("merge", "b", ((NO, ("when", A, OFF)), (YES, ("then", ("int", 50), ("int", 60), ()))))
        self.shows(flat(merged), told, [1, 50, 3, 60, 60])
        arms = tuple((("mode", MODE[1], at), ("int", 10 + at)) for at in range(3))
        self.shows(flat((LV, ("merge", "m", arms))), told, [12, 10, 11, 11, 12])
        self.shows(flat((LV, ("weave", ("int", 1), ("int", 2), ("int", 3)))), told, [1, 2, 3, 1, 2])
        self.shows(flat((LV, ("weave", ("int", 1)))), told, [1, 1, 1, 1, 1])
        six = ("weave",) + tuple(("int", at) for at in range(6))
        self.shows(flat((LV, six)), rows(a=range(14)), [at % 6 for at in range(14)])

    def test_weave_on_a_slow_clock(self):
        made = flat(("weave", ("when", ("name", "y"), ("every", 2, 0, None)), ("int", 50)), ("when", A, ON))
        self.shows(made, rows(a=(1, 2, 3, 4, 5), b=(1, 0, 1, 1, 1)), [1, None, 50, 4, 50])

    def test_every(self):
        for n in range(1, 13):
            for k in {0, n // 2, n - 1}:
                layer = ("every", n, k, None)
                told = rows(a=range(1, 30))
                wanted = [a if (a - 1) % n == k else None for a in range(1, 30)]
                self.shows(flat(("when", A, layer)), told, wanted)

    def test_every_on_slow_clocks(self):
        told = rows(a=range(1, 13), b=(1, 0, 1, 1, 0, 1, 1, 1, 0, 0, 1, 1))
        self.shows(flat(("when", ("when", A, ON), ("every", 3, 1, None))), told,
                   [None, None, 3, None, None, None, 7, None, None, None, None, 12])
        both = ("when", ("when", A, ("every", 2, 1, None)), ("every", 2, 1, None))
        self.shows(flat(both), told, [None, None, None, 4, None, None, None, 8, None, None, None, 12])

    def test_fresh(self):
        coming = [None, 5, None, None, 7, 8] + [None] * 14 + [9, None]
        for n in range(13):
            wanted = []
            for t in range(len(coming)):
                recent = [value for value in coming[max(0, t - n):t + 1] if value is not None]
                wanted.append(recent[-1] if recent else t)
            self.shows(flat(("fresh", "e", n, A)), rows(a=range(len(coming)), e=coming), wanted)

    def test_fresh_in_a_last(self):
        self.shows(flat(("then", ("int", 9), ("last", ("fresh", "e", 1, A), ()), ())),
                   rows(a=(1, 2, 3, 4, 5), e=(None, 50, None, None, None)), [9, 1, 50, 50, 4])

    def test_late_events(self):
        made = flat(("then", ("int", 9), ("last", E, ()), ()))
        self.shows(made, rows(e=(None, None, 5, None, 6, 7)), [None, None, 9, None, 5, 6])
        self.shows(made, rows(e=(None,) * 4), [None] * 4)
        self.shows(flat(("held", ("int", 9), E, ("is", "e@here", YES), ())),
                   rows(e=(None, None, 5, None, 6, None)), [9, 9, 5, 5, 6, 6])

    def test_what_is_shown(self):
        made = ("flat", INPUTS, tuple((name, None, None, 0, expr) for name, expr in
                                      (("x", A), ("y", B), ("z", C), ("w", ("when", B, ON)))),
                ("z", "x"), ("w",), ("y",))
        run = FlatRun(made)
        self.assertEqual(run.tick((5, 1, 0, 0, None, None)), (0, 5, 1, 1))
        self.assertEqual(run.tick((6, 0, 1, 0, None, None)), (1, 6, None, 0))


class Resets(Runs):
    def test_then_and_last(self):
        told = rows(a=(1, 2, 3, 4, 5, 6), b=(0, 0, 1, 0, 1, 1))
        made = flat(("then", ("int", 90), ("last", A, ("b",)), ("b",)))
        self.shows(made, told, [90, 1, 90, 3, 90, 90])
        # last alone has no reset: it goes on.
        self.shows(flat(("then", ("int", 90), ("last", A, ()), ("b",))), told, [90, 1, 90, 3, 90, 90])

    def test_while_the_part_is_not_there(self):
        slow = ("when", A, ("is", "c", YES))
        told = rows(a=(1, 2, 3, 4, 5, 6, 7), c=(1, 1, 0, 0, 1, 1, 1), b=(0, 0, 1, 0, 0, 0, 1))
        made = flat(("then", ("when", ("int", 90), ("is", "c", YES)), ("last", slow, ("b",)), ("b",)))
        self.shows(made, told, [90, 1, None, None, 90, 5, 90])
        still = flat(("then", ("when", ("int", 90), ("is", "c", YES)), ("last", slow, ()), ()))
        self.shows(still, told, [90, 1, None, None, 2, 5, 6])

    def test_held(self):
        told = rows(a=(1, 2, 3, 4, 5, 6, 7), b=(1, 0, 0, 1, 0, 0, 0), c=(0, 0, 1, 1, 0, 1, 0))
        made = flat(("held", ("int", 90), ("when", A, ON), ON, ("c",)))
        self.shows(made, told, [1, 1, 90, 4, 4, 90, 90])

    def test_held_that_is_not_there(self):
        """y is there when c is 1; its part is sampled when z is 1; it is put back by b."""
        on = ("is", "c", YES)
        inner = ("is", "z", YES)
        made = flat(("held", ("int", 90), ("when", ("name", "y"), inner), inner, ("b",)),
                    ("when", A, on), ("lt", ("name", "y"), ("int", 50)))
        told = rows(a=(1, 60, 60, 60, 2, 60), c=(1, 1, 0, 1, 1, 1), b=(0, 0, 1, 0, 0, 0))
        self.shows(made, told, [1, 1, None, 90, 2, 2])

    def test_resets_of_all_sorts(self):
        def counting(reset):
            return flat((LV, ("then", ("int", 0), ("add", ("last", X, (reset,)), ("int", 1)), (reset,))),
                        ("when", C, ON))
        told = rows(b=(0, 0, 1, 0, 1, 0), c=(0, 0, 0, 0, 1, 0), e=(None, None, 1, None, None, None))
        self.shows(counting("b"), told, [0, 1, 0, 1, 0, 1])
        self.shows(counting("e@here"), told, [0, 1, 0, 1, 2, 3])
        self.shows(counting("c"), told, [0, 1, 2, 3, 0, 1])

    def test_resets_that_are_not_there(self):
        # The reset y is there only when b is 1, and so are the parts that it puts back.
        made = flat((LV, ("then", ("int", 0), ("add", ("last", X, ("y",)), ("when", ("int", 1), ON)),
                          ("y",))), ("when", C, ON))
        told = rows(b=(1, 0, 1, 1, 1, 0, 1), c=(0, 1, 0, 1, 0, 1, 0))
        self.shows(made, told, [0, None, 1, 0, 1, None, 2])

    def test_resets_by_an_event(self):
        on = ("is", "f@here", YES)
        added = ("add", ("last", X, ("f",)), ("when", ("int", 1), on))
        made = flat((LV, ("then", ("int", 0), added, ("f",))))
        self.shows(made, rows(f=(0, None, 0, 1, None, 0)), [0, None, 1, 0, None, 1])

    def test_two_resets(self):
        made = flat((LV, ("then", ("int", 0), ("add", ("last", X, ("b", "c")), ("int", 1)), ("b", "c"))))
        self.shows(made, rows(b=(0, 0, 1, 0, 0, 0), c=(0, 0, 0, 0, 1, 1)), [0, 1, 0, 1, 0, 0])

    def test_within_a_last(self):
        # What stands within a last is put back, too, at the very tick of the reset.
        inner = ("then", ("int", 50), ("last", A, ("b",)), ("b",))
        made = flat(("then", ("int", 90), ("last", inner, ()), ()))
        self.shows(made, rows(a=(1, 2, 3, 4, 5), b=(0, 0, 1, 0, 0)), [90, 50, 1, 50, 3])

    def test_rates_go_on(self):
        made = flat(("held", ("int", 90), ("when", A, ("every", 3, 0, None)), ("every", 3, 0, None), ("b",)))
        self.shows(made, rows(a=range(1, 8), b=(0, 1, 0, 0, 1, 0, 0)), [1, 90, 90, 4, 90, 90, 7])


class Loose(Runs):
    INPUTS = INPUTS + (("l", LV, "s"), ("k", BOOL, "s"))

    def test_values_count_when_they_are_there(self):
        slow = ("s", None, None, 0, ("when", A, ON))

        def made(*eqs):
            return ("flat", self.INPUTS, (slow,) + tuple(
                (name, None, None, 0, expr) for name, expr in zip("xy", eqs)), ("x",), (), ())
        told = rows(a=(1, 2, 3, 4, 5), b=(1, 0, 1, 0, 1), l=(10, 20, 30, 40, 50), k=(0, 1, 1, 1, 0))
        self.shows(made(("name", "l")), told, [10, None, 30, None, 50])
        self.shows(made(("then", ("name", "s"), ("last", ("name", "l"), ()), ())), told,
                   [1, None, 10, None, 30])
        # k does not sample, nor put back, when it is not there.
        layer = ("is", "k", YES)
        self.shows(made(("held", ("name", "s"), ("when", ("name", "l"), layer), layer, ())), told,
                   [1, None, 30, None, 30])
        self.shows(made(("when", ("name", "l"), layer)), told, [None, None, 30, None, None])
        counting = ("then", ("name", "l"), ("add", ("last", X, ("k",)), ("name", "s")), ("k",))
        self.shows(made(counting), told, [10, None, 30, None, 35])


class Fillings(unittest.TestCase):
    MADE = flat(("and", ("last", ("pick", B, ("last", ("eq", A, ("last", A, ())), ()), C), ()),
                 ("last", B, ())),
                ("merge", "b", ((NO, ("when", ("last", A, ()), OFF)), (YES, ("last", ("when", A, ON), ())))),
                B, shown="z")

    def test_kinds_in_order(self):
        self.assertEqual(lasts_of(self.MADE), (BOOL, BOOL, LV, BOOL, LV, LV))
        self.assertEqual(lasts_of(flat(A)), ())
        nested = flat(("last", ("row", ("last", ("last", A, ()), ()), A), ()),
                      ("held", ("last", B, ()), ("when", ("last", C, ()), ON), ON, ()))
        self.assertEqual(lasts_of(nested), (ROW, LV, LV, BOOL, BOOL))
        self.assertEqual(lasts_of(flat(("fresh", "e", 2, ("last", ("fresh", "e", 1, ("last", A, ())), ())))),
                         (LV, LV))

    def shown(self, exprs, fillings, told):
        """What an unset program shows by the slow run and by the flat run, for many ticks."""
        made = flat(*exprs)
        run = FlatRun(made, fillings)
        got = [run.tick(row)[0] for row in told]
        self.assertEqual([(value,) for value in got], FlatOracle(made, told, fillings).shown())
        return got

    def test_order_of_fillings(self):
        told = [(a, 0, 0, 0, None, None) for a in (1, 2, 3, 4)]
        self.assertEqual(self.shown([("last", ("last", A, ()), ())], (50, 60), told), [50, 60, 1, 2])
        two = [("add", ("last", ("last", A, ()), ()), ("last", A, ()))]
        self.assertEqual(self.shown(two, (5, 20, 30), told), [35, 21, 3, 5])
        self.assertEqual(self.shown([("last", ("name", "y"), ()), ("last", A, ())], (50, 60), told),
                         [50, 60, 1, 2])
        self.assertEqual(self.shown([("last", ("last", A, ()), ())], (), told), [0, 0, 1, 2])

    def test_fillings_come_back_with_resets(self):
        told = [(a, b, 0, 0, None, None) for a, b in ((1, 0), (2, 0), (3, 1), (4, 0))]
        self.assertEqual(self.shown([("last", A, ("b",))], (50,), told), [50, 1, 50, 3])

    def test_all_fillings_show_the_same(self):
        rng = random.Random(7)
        many = 0
        for seed in range(60):
            made = random_flat(seed, 3, seed % 2 == 1)
            if not is_let(made):
                continue
            told = flat_rows(seed, made, 12)
            kinds = lasts_of(made)
            wanted = list(FlatRun(made).ticks(told))
            for pick in (min, max, rng.choice):
                fillings = tuple(pick(values_of(kind)) for kind in kinds)
                self.assertEqual(list(FlatRun(made, fillings).ticks(told)), wanted, seed)
            many += len(kinds) > 1
        self.assertGreater(many, 20)


def is_let(made):
    try:
        checked(made)
    except (CheckFault, LimitFault):
        return False
    return resets_fit(made, part_clocks(made), [listed(eq[4]) for eq in made[2]])


class Rings(Runs):
    def test_rings_that_settle(self):
        made = flat(("pick", B, C, ("name", "y")), ("pick", B, ("not", X), ("eq", A, ("int", 3))))
        told = rows(a=(1, 3, 3, 3), b=(1, 0, 1, 0), c=(0, 0, 1, 1))
        self.shows(made, told, [0, 1, 1, 1])
        self.shows(made[:3] + (("y",), (), ()), told, [1, 1, 0, 1])

    def test_unknown_names_do_not_count(self):
        self.shows(flat(("pick", X, B, B)), rows(b=(0, 1)), [0, 1])
        self.shows(flat(("and", ("or", X, ("name", "y")), NO), ("or", ("xor", X, X), B)), rows(b=(0, 1)),
                   [0, 0])

    def test_rings_on_slow_clocks(self):
        slow = ("when", C, ON)
        made = flat(("pick", slow, ("name", "y"), ("not", slow)), ("pick", slow, ("not", slow), X))
        self.shows(made, rows(b=(1, 0, 1, 0), c=(0, 1, 1, 0)), [1, None, 0, None])

    def test_rings_with_memory(self):
        # Free parts go on in all ticks, also in a last made of the ring itself.
        before = ("then", NO, ("last", ("not", X), ()), ())
        made = flat(("pick", B, before, ("name", "y")), ("pick", B, X, C))
        self.shows(made, rows(b=(1, 1, 0, 0, 1, 1), c=(0, 0, 0, 1, 1, 0)), [0, 1, 0, 1, 0, 1])

    def test_equal_parts_with_unlike_fillings(self):
        # For all truths it settles, since equal parts count once; unlike ones would not settle.
        last = ("last", C, ())
        made = flat(("then", NO, ("name", "y"), ()), ("pick", last, ("name", "z"), B),
                    ("pick", last, B, ("name", "y")))
        checked(made)
        told = [(0, b, c, 0, None, None) for b, c in ((0, 0), (1, 1), (1, 0), (0, 0))]
        for fillings in ((0, 0), (0, 1), (1, 0), (1, 1)):
            self.assertEqual(list(FlatRun(made, fillings).ticks(told)), [(0,), (1,), (1,), (0,)])
            self.assertEqual(FlatOracle(made, told, fillings).shown(), [(0,), (1,), (1,), (0,)])

    def test_names_of_rings_as_resets_and_in_layers(self):
        ring = ("pick", B, C, ("name", "z"))
        other = ("pick", B, ("name", "y"), C)
        made = flat((LV, ("then", ("int", 0), ("add", ("last", X, ("y",)), ("int", 1)), ("y",))), ring, other)
        self.shows(made, rows(b=(0, 1, 0, 1, 0), c=(0, 0, 1, 0, 0)), [0, 1, 0, 1, 2])
        on = ("is", "y", YES)
        self.shows(flat(("held", ("int", 9), ("when", A, on), on, ()), ring, other),
                   rows(a=(1, 2, 3, 4), b=(0, 1, 0, 1), c=(0, 1, 1, 0)), [9, 2, 3, 3])


class Whole(unittest.TestCase):
    def test_random_flats(self):
        let = 0
        for seed in range(160):
            made = random_flat(seed, 2 + seed % 4, seed % 2 == 1)
            if is_let(made):
                let += 1
                told = flat_rows(seed, made, 13)
                self.assertEqual(list(FlatRun(made).ticks(told)), FlatOracle(made, told).shown(), seed)
        self.assertGreater(let, 90)

    def test_shows_what_the_plain_run_shows(self):
        let = 0
        for seed in range(200, 260):
            text, kinds = random_program(seed)
            program = read_program(text)
            made = flatten(program)
            if is_let(made):
                let += 1
                told = random_rows(seed, kinds, 14)
                self.assertEqual(list(FlatRun(made).ticks(told)), list(ProgramRun(program).ticks(told)))
        self.assertGreater(let, 40)

    def test_runs(self):
        made = flat((LV, ("then", ("int", 0), ("add", ("last", X, ("b",)), A), ("b",))))
        told = [(a, b, 0, 0, None, None) for a, b in ((1, 0), (2, 0), (3, 1), (4, 0), (5, 0))]
        check_ticks(self, lambda: FlatRun(made), told)
        check_ticks(self, lambda: FlatRun(made, (7,)), told)
        check_no_state(self, FlatRun(made))

    def test_deep_clocks(self):
        expr = A
        for _ in range(90):
            expr = ("when", expr, ("every", 1, 0, None))
        eqs = [("x0", None, None, 0, expr)]
        for at in range(1, 9):
            expr = ("name", f"x{at - 1}")
            for _ in range(90):
                expr = ("when", expr, ("every", 1, 0, None))
            eqs.append((f"x{at}", None, None, 0, expr))
        run = FlatRun(("flat", INPUTS, tuple(eqs), ("x8",), (), ()))
        self.assertEqual(run.tick((7, 0, 0, 0, None, None)), (7,))


if __name__ == "__main__":
    unittest.main()
