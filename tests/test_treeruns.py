import unittest

from keepsgoing.clocksof import clocks_of
from keepsgoing.errors import CheckFault
from keepsgoing.flatrings import check_rings
from keepsgoing.flatten import flatten
from keepsgoing.kindsof import kinds_of
from keepsgoing.naming import check_names
from keepsgoing.reading import read_program
from keepsgoing.starts import check_starts
from keepsgoing.treeruns import ProgramRun
from tests.flatoracle import FlatOracle
from tests.randomprograms import random_program, random_rows

KINDS = "kind lv = num 0..99 hold; kind md = mode(p, q, r); "
COUNT = "unit count(i: lv) gives (o: lv) { o = i then last o + i; } "


def program(text):
    made = read_program(KINDS + text)
    check_names(made)
    flat = flatten(made)
    kinds_of(flat)
    clocks_of(flat)
    check_rings(flat)
    check_starts(flat)
    return made


class Runs(unittest.TestCase):
    def shows(self, text, rows, wanted):
        """What the plain run shows; a slow look at the flat program shows the same."""
        made = program(text)
        rows = [row if isinstance(row, tuple) else (row,) for row in rows]
        got = list(ProgramRun(made).ticks(rows))
        wanted = [each if isinstance(each, tuple) else (each,) for each in wanted]
        self.assertEqual(got, wanted)
        self.assertEqual(FlatOracle(flatten(made), rows).shown(), wanted)

    def one(self, expr, rows, wanted, more=""):
        """One out x of a top with the ins a, b (a bool) and c (an lv)."""
        self.shows(f"unit t(a: lv, b: bool, c: lv) gives (x: lv) {{ {more} x = {expr}; }}",
                   rows, wanted)


class Exprs(Runs):
    ROWS = [(1, 0, 5), (2, 1, 6), (3, 1, 7), (4, 0, 8), (5, 1, 9), (6, 0, 10)]

    def test_memory(self):
        self.one("0 then last a", self.ROWS, [0, 1, 2, 3, 4, 5])
        self.one("0 then last (9 then last a)", self.ROWS, [0, 9, 1, 2, 3, 4])
        self.one("0 then last x + a", self.ROWS, [0, 2, 5, 9, 14, 20])
        self.one("a then b1", self.ROWS, [1, 6, 7, 8, 9, 10], "local b1; b1 = c;")

    def test_parts_that_are_not_picked(self):
        # The count goes on at every tick, whether it is picked or not.
        self.one("pick(b, 1 then last x + 1, n)", [(0, b, 0) for b in (0, 1, 0, 1)],
                 [1, 2, 3, 4], "local n: lv; n = 1 then last n + 1;")
        self.one("pick(b, 1 then 50, 7)", [(0, b, 0) for b in (0, 1, 0, 1)], [7, 50, 7, 50])

    def test_samples_and_merges(self):
        self.one("merge(b, true: when(a, b is true), false: when(c, b is false))", self.ROWS,
                 [5, 2, 3, 8, 5, 10])
        self.one("merge(b, true: 1 then last s + 1, false: 0)", self.ROWS, [0, 1, 2, 0, 3, 0],
                 "local s: lv; s = when(y, b is true); local y: lv; y = x;")
        self.shows("unit t(m: md) gives (x: lv) { x = merge(m, md.q: 2, md.r: 3, md.p: 1); }",
                   [0, 1, 2, 1], [1, 2, 3, 2])

    def test_names_that_are_looked_at_come_first(self):
        self.one("merge(y, true: 1, false: 2)", self.ROWS, [2, 1, 1, 2, 1, 2],
                 "local y; y = z; local z; z = b;")
        self.one("held(0, 1 then last s + 1, y is true)", self.ROWS, [0, 1, 2, 2, 3, 3],
                 "local y; y = b; local s: lv; s = 1 then last s + 1;")

    def test_held(self):
        self.one("held(50, when(a, b is true), b is true)", self.ROWS, [50, 2, 3, 3, 5, 5])
        self.one("held(c, when(a, every 3 from 1), every 3 from 1)", self.ROWS, [5, 2, 2, 2, 5, 5])

    def test_weave(self):
        self.one("weave(when(a, every 2 from 0), when(c, every 2 from 1))", self.ROWS,
                 [1, 6, 3, 8, 5, 10])
        self.one("weave(1, 2, 3)", self.ROWS, [1, 2, 3, 1, 2, 3])
        self.one("weave(when(a, every 1 from 0))", self.ROWS, [1, 2, 3, 4, 5, 6])

    def test_slower_than_slow(self):
        more = "local s; s = when(a, every 2 from 1); local u; u = when(s, every 2 from 0);"
        self.one("held(0, held(0, u, every 2 from 0), every 2 from 1)", self.ROWS,
                 [0, 2, 2, 2, 2, 6], more)

    def test_absent_ones(self):
        self.shows("unit t(a: lv, b: bool) gives (x: lv, y: lv) { x = when(a, b is true); "
                   "y = when(x, every 2 from 1); keep b; assume not b; }",
                   [(1, 0), (2, 1), (3, 1), (4, 0), (5, 1), (6, 1)],
                   [(None, None, 1, 0), (2, None, 0, 1), (3, 3, 0, 1), (None, None, 1, 0),
                    (5, None, 0, 1), (6, 6, 0, 1)])

    def test_rates_of_what_is_not_there(self):
        # The clock of x begins with that of s, though x is made of a number alone.
        self.shows("unit t(a: lv, b: bool) gives (x: lv, y: lv) { local s; s = when(a, b is true); "
                   "x = 7; local z; z = held(s, x, every 2 from 0); "
                   "y = when(z, every 2 from 1); }",
                   [(1, 0), (1, 1), (1, 0), (1, 1), (1, 0), (1, 1), (1, 1)],
                   [(None, None), (7, None), (None, None), (None, 7), (None, None), (7, None),
                    (None, 7)])

    def test_kinds_fit(self):
        self.shows("unit t(a: num -3..4 wrap) gives (x: num -3..4 wrap, y: bool) { x = a + 3 * a; "
                   "y = a < 0 - a; }", [0, 1, 2, -3], [(0, 0), (4, 0), (0, 0), (4, 1)])


class Events(Runs):
    ROWS = [None, 5, None, None, 7, 8, None]

    def test_here_and_else(self):
        self.shows("unit t(event e: lv) gives (x: bool, y: lv) { x = here(e); y = else(e, 9); }",
                   self.ROWS, [(0, 9), (1, 5), (0, 9), (0, 9), (1, 7), (1, 8), (0, 9)])

    def test_names(self):
        self.shows("unit t(event e: lv) gives (x: lv) { x = e + 1; }", self.ROWS,
                   [None, 6, None, None, 8, 9, None])
        self.shows("unit t(event e: lv) gives (x: lv) { x = 0 then last e; }", self.ROWS,
                   [None, 0, None, None, 5, 7, None])

    def test_fresh(self):
        def text(many):
            return f"unit t(event e: lv) gives (x: lv) {{ x = fresh(e, {many}, n); " \
                   "local n; n = 90 then last n + 1; }"
        self.shows(text(0), self.ROWS, [90, 5, 92, 93, 7, 8, 96])
        self.shows(text(1), self.ROWS, [90, 5, 5, 93, 7, 8, 8])
        self.shows(text(2), self.ROWS + [None, None], [90, 5, 5, 5, 7, 8, 8, 8, 98])
        self.shows(text(12), self.ROWS + [None] * 12, [90, 5, 5, 5, 7] + [8] * 13 + [99])

    def test_two_events(self):
        self.shows("unit t(event e: lv, event f: lv) gives (x: lv) { "
                   "x = else(e, fresh(f, 1, 9)); }",
                   [(None, None), (None, 1), (None, None), (None, None), (3, 4), (None, None)],
                   [9, 1, 1, 9, 3, 4])


class Uses(Runs):
    def test_own_contents(self):
        self.shows(COUNT + "unit t(a: lv, b: lv) gives (x: lv, y: lv) { use x = count(a); "
                   "use y = count(b); }", [(1, 2), (1, 2), (1, 2)], [(1, 2), (2, 4), (3, 6)])

    def test_slow_ins(self):
        self.shows(COUNT + "unit t(a: lv, b: bool) gives (x: lv) { "
                   "use x = count(when(a, b is true)); }",
                   [(1, 1), (1, 0), (1, 1), (1, 0), (1, 1)], [1, None, 2, None, 3])

    def test_every(self):
        self.shows(COUNT + "unit t(a: lv, b: bool) gives (x: lv) { use x = count(a) every b; }",
                   [(1, 0), (1, 0), (1, 1), (1, 0), (5, 1), (1, 1), (1, 0)], [1, 2, 1, 2, 5, 1, 2])

    def test_every_puts_back_all_within(self):
        self.shows(COUNT + "unit two(i: lv) gives (o: lv, s: bool) { use o = count(i); "
                   "machine m { state k { s = false; until o == 2 go l; } state l { s = true; } } } "
                   "unit t(a: bool) gives (x: lv, y: bool) { use x, y = two(1) every a; }",
                   [0, 0, 0, 1, 0, 0, 0, 1, 0],
                   [(1, 0), (2, 0), (3, 1), (1, 0), (2, 0), (3, 1), (4, 1), (1, 0), (2, 0)])

    def test_every_counts_on(self):
        # The ticks of a rate are counted from the first one on, whatever is put back.
        self.shows("unit u(i: lv) gives (o: lv) { o = held(50, when(i, every 3 from 0), "
                   "every 3 from 0); } unit t(a: lv, b: bool) gives (x: lv) { use x = u(a) every b; }",
                   [(1, 0), (2, 0), (3, 1), (4, 0), (5, 0), (6, 1), (7, 1), (8, 0)],
                   [1, 1, 50, 4, 4, 50, 7, 7])

    def test_weave_counts_on(self):
        self.shows("unit u(i: lv) gives (o: lv) { o = weave(1, 2, 3); } "
                   "unit t(a: lv, b: bool) gives (x: lv) { use x = u(a) every b; }",
                   [(1, 0), (1, 1), (1, 1), (1, 0)], [1, 2, 3, 1])

    def test_every_of_slow_ins(self):
        self.shows(COUNT + "unit t(a: bool, b: bool) gives (x: lv) { "
                   "use x = count(when(1, a is true)) every when(b, a is true); }",
                   [(1, 0), (1, 0), (0, 1), (1, 0), (1, 1), (0, 0), (1, 0)],
                   [1, 2, None, 3, 1, None, 2])

    def test_claims(self):
        self.shows("unit u(i: lv) gives (o: lv) { assume i < 3; o = i; keep o < 2; } "
                   "unit t(a: lv) gives (x: lv) { assume a != 4; use x = u(a); keep x != 5; }",
                   [1, 2, 3, 4, 5], [(1, 1, 1, 1, 1), (2, 1, 1, 0, 1), (3, 1, 0, 0, 1),
                                     (4, 0, 0, 0, 1), (5, 1, 0, 0, 0)])


class Machines(Runs):
    def test_until(self):
        self.shows("unit t(a: bool) gives (x: lv) { machine m { "
                   "state s { x = 1; until a go u; } state u { x = 2; until a go s; } } }",
                   [0, 1, 0, 1, 1, 1, 0], [1, 1, 2, 2, 1, 2, 1])

    def test_unless(self):
        self.shows("unit t(a: bool) gives (x: lv) { machine m { "
                   "state s { unless a go u; x = 1; } state u { unless a go s; x = 2; } } }",
                   [0, 1, 0, 1, 1, 1, 0], [1, 2, 2, 1, 2, 1, 1])

    def test_first_turn_counts(self):
        self.shows("unit t(a: lv) gives (x: lv) { machine m { "
                   "state s { unless 0 < a go u; unless 1 < a go v; x = 1; } "
                   "state u { x = 2; until a == 0 go s; until a < 5 go v; } "
                   "state v { x = 3; } } }", [0, 2, 9, 0, 1, 4, 0], [1, 2, 3, 3, 3, 3, 3])
        self.shows("unit t(a: lv) gives (x: lv) { machine m { "
                   "state s { x = 1; until a == 3 go u; until 2 < a go v; } "
                   "state u { x = 2; until a == 0 go s; until a < 5 go v; } "
                   "state v { x = 3; until a == 9 go s; until a == 9 go u; } } }",
                   [3, 0, 5, 9, 3, 4, 9, 0], [1, 2, 1, 3, 1, 2, 3, 1])

    def test_go_puts_back_and_back_does_not(self):
        def text(there, again):
            return ("unit t(a: bool) gives (x: lv) { machine m { "
                    f"state s {{ x = 1 then last x + 1; until a {there} u; }} "
                    f"state u {{ x = 50 then last x + 1; until a {again} s; }} }} }}")
        rows = [0, 1, 0, 1, 0, 1, 0, 1]
        self.shows(text("go", "go"), rows, [1, 2, 50, 51, 1, 2, 50, 51])
        self.shows(text("back", "back"), rows, [1, 2, 50, 51, 3, 4, 52, 53])
        self.shows(text("go", "back"), rows, [1, 2, 50, 51, 3, 4, 50, 51])
        self.shows(text("back", "go"), rows, [1, 2, 50, 51, 1, 2, 52, 53])

    def test_unless_go_and_back(self):
        def text(how):
            return ("unit t(a: bool) gives (x: lv) { machine m { "
                    f"state s {{ unless a {how} s; x = 1 then last x + 1; }} }} }}")
        self.shows(text("go"), [0, 0, 1, 0, 1, 1, 0], [1, 2, 1, 2, 1, 1, 2])
        self.shows(text("back"), [0, 0, 1, 0, 1, 1, 0], [1, 2, 3, 4, 5, 6, 7])

    def test_only_one_unless_in_a_tick(self):
        self.shows("unit t(a: bool) gives (x: lv) { machine m { state s { unless a go u; x = 1; } "
                   "state u { unless a go v; x = 2; } state v { unless a go s; x = 3; } } }",
                   [1, 1, 1, 0, 1], [2, 3, 1, 1, 2])

    def test_left_again_ahead_of_being_active(self):
        # The until leads to u by go, but an unless leaves u at once: u is not put back.
        self.shows("unit t(a: bool, b: bool) gives (x: lv) { machine m { "
                   "state s { x = 0; until a go u; until not a back u; } "
                   "state u { unless b back s; x = 1 then last x + 1; until a go s; } } }",
                   [(0, 0), (0, 0), (0, 0), (1, 0), (1, 0), (0, 1), (0, 0), (0, 0)],
                   [0, 1, 2, 3, 0, 0, 4, 5])

    def test_names_around(self):
        # last e in a state: e at the last tick in which the state was active.
        self.shows("unit t(a: lv, b: bool) gives (x: lv) { machine m { "
                   "state s { x = 0 then last a; until b back u; } "
                   "state u { x = 50; until b back s; } } }",
                   [(1, 0), (2, 1), (3, 0), (4, 1), (5, 0), (6, 0)], [0, 1, 50, 50, 2, 5])

    def test_rates_in_states(self):
        # The rate counts the ticks of the state, and goes on behind a go.
        self.shows("unit t(a: bool) gives (x: lv) { machine m { "
                   "state s { x = held(9, when(1 then last x + 1, every 2 from 0), every 2 from 0); "
                   "until a go u; } state u { x = 50; until a go s; } } }",
                   [0, 0, 1, 0, 1, 0, 0, 0], [1, 1, 2, 50, 50, 9, 10, 10])

    def test_machines_in_machines(self):
        self.shows("unit t(a: bool, b: bool) gives (x: lv) { machine m { "
                   "state s { machine n { state k { x = 1; until a go l; } "
                   "state l { x = 2 then last x + 1; until a back k; } } until b go u; } "
                   "state u { x = 50; until b back s; until a go s; } } }",
                   [(0, 0), (1, 0), (0, 0), (0, 1), (0, 1), (0, 0), (0, 1), (1, 0), (0, 0)],
                   [1, 1, 2, 3, 50, 4, 5, 50, 1])

    def test_state_begins_at_its_first_tick(self):
        self.shows("unit t(a: bool) gives (x: lv) { local n; n = 0 then last n + 1; machine m { "
                   "state s { x = 90; until a back u; } state u { x = n then last x; } } }",
                   [0, 0, 1, 0, 0], [90, 90, 90, 3, 3])

    def test_first_state_put_back_by_every(self):
        # A machine that is put back begins in its first state, which is not come to by go.
        self.shows("unit u(i: bool) gives (o: lv) { machine m { state s { o = 1 then last o + 1; "
                   "until i back k; } state k { o = 50 then last o + 1; until i back s; } } } "
                   "unit t(a: bool, b: bool) gives (x: lv) { use x = u(a) every b; }",
                   [(0, 0), (1, 0), (0, 0), (0, 1), (0, 0), (1, 0), (0, 0)],
                   [1, 2, 50, 1, 2, 3, 50])

    def test_events_turn(self):
        self.shows("unit t(event e: lv) gives (x: lv) { machine m { state s { unless here(e) go u; "
                   "x = 1; } state u { unless here(e) go s; x = 2; } } }",
                   [None, 3, None, 4], [1, 2, 2, 1])

    def test_units_in_states(self):
        self.shows(COUNT + "unit t(a: bool) gives (x: lv) { machine m { "
                   "state s { use x = count(1); until a go u; } "
                   "state u { use x = count(10); until a back s; } } }",
                   [0, 1, 0, 1, 0, 1, 0], [1, 2, 10, 20, 3, 4, 10])


class Whole(Runs):
    def test_random_programs(self):
        let = 0
        for seed in range(130):
            text, kinds = random_program(seed)
            made = read_program(text)
            check_names(made)
            flat = flatten(made)
            try:
                kinds_of(flat)
                clocks_of(flat)
                check_rings(flat)
                check_starts(flat)
            except CheckFault:
                continue
            let += 1
            rows = random_rows(seed, kinds, 12)
            got = list(ProgramRun(made).ticks(rows))
            self.assertEqual(got, FlatOracle(flat, rows).shown(), seed)
        self.assertGreater(let, 80)

    def test_two_runs_by_turns(self):
        made = program(COUNT + "unit t(a: lv, b: bool) gives (x: lv) { use x = count(a) every b; }")
        one, two = ProgramRun(made), ProgramRun(made)
        self.assertEqual([one.tick((1, 0)), two.tick((5, 0)), one.tick((1, 0)), two.tick((5, 1)),
                          one.tick((1, 0)), two.tick((5, 0))],
                         [(1,), (5,), (2,), (5,), (3,), (10,)])

    def test_ticks_come_when_they_are_asked_for(self):
        run = ProgramRun(program(COUNT + "unit t(a: lv) gives (x: lv) { use x = count(a); }"))
        told = run.ticks(((1,), (2,), (3,)))
        self.assertEqual(next(told), (1,))
        self.assertEqual(run.tick((10,)), (11,))
        self.assertEqual(list(told), [(13,), (16,)])
        self.assertEqual(list(run.ticks([])), [])

    def test_large_programs(self):
        # 300 equations in a line, each ahead of the one on which it hangs.
        rows = "".join(f"local l{at}; l{at} = l{at + 1} + 0; " for at in range(298))
        run = ProgramRun(program(f"unit t(a: lv) gives (x: lv) {{ x = l0; {rows} "
                                 "local l298; l298 = a; }"))
        self.assertEqual(run.tick((7,)), (7,))
        slow = "".join(f"local l{at}; l{at} = when(l{at - 1}, every 1 from 0); "
                       for at in range(1, 298))
        run = ProgramRun(program(f"unit t(a: lv) gives (x: lv) {{ x = a; local l0; l0 = a; {slow} }}"))
        self.assertEqual(run.tick((7,)), (7,))

    def test_many_turns(self):
        turns = "unless b and not b go s; " * 1500
        run = ProgramRun(program(f"unit t(b: bool) gives (x: bool) {{ x = b; machine m {{ "
                                 f"state s {{ {turns} }} }} }}"))
        self.assertEqual([run.tick((1,)), run.tick((0,))], [(1,), (0,)])


if __name__ == "__main__":
    unittest.main()
