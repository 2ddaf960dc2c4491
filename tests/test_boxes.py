"""Boxes and loose inputs: [52], [53], [54]."""

import random
import unittest

from keepsgoing.boxes import alone, boxed, unit_by_unit
from keepsgoing.checking import checked
from keepsgoing.clocksof import clocks_of
from keepsgoing.deciding import decided
from keepsgoing.errors import ClockClash, KindClash, Ring, TooLarge, TooMany, Unset, Unsettled
from keepsgoing.flatrings import check_rings
from keepsgoing.flatruns import FlatRun
from keepsgoing.flatten import flatten
from keepsgoing.flowof import flow_of
from keepsgoing.flowruns import FlowRun
from keepsgoing.flows import is_flow, is_straight
from keepsgoing.kindsof import kinds_of
from keepsgoing.naming import check_names
from keepsgoing.opening import opened
from keepsgoing.reading import read_program
from keepsgoing.starts import grades_of, is_started
from tests.randomflats import flat_rows

BOOL = ("bool",)
LV = ("num", 0, 3, 1, "hold")
NO, YES = ("truth", 0), ("truth", 1)


def program(text):
    tree = read_program(text)
    check_names(tree)
    return tree


def name(x):
    return ("name", x)


def long_of(q):
    return ("and", name(q + "@fine"), ("then", YES, ("last", name(q + "@long"), ()), ()))


STEP = """kind lv = num 0 .. 3 hold;
unit step(a: bool, n: lv) gives (x: bool, m: lv) {
  local y: bool; assume not a or n < 3; keep x == a; y = last a; assume 0 <= n; x = a; m = n + 1; keep x or n < m; keep true;
}
"""


class Alone(unittest.TestCase):
    def test_alone(self):
        text = STEP + "unit more(a: bool) gives (z: bool) { local k: lv; use z, k = step(a, 1); }\n"
        whole = program(text + "unit main(event e: bool) gives (z: bool) { use z = more(else(e, true)); }")
        self.assertEqual(alone(whole, "step"), flatten(program(STEP)))
        self.assertEqual(alone(whole, "step")[4:], (("assume@0", "assume@1"), ("keep@0", "keep@1", "keep@2")))
        self.assertEqual(alone(whole, "more"), flatten(program(text)))
        self.assertEqual(alone(whole, "main"), flatten(whole))

    def test_too_large(self):
        sets = " ".join(f"local v{at}: bool; v{at} = a;" for at in range(300))
        whole = program(f"unit big(a: bool) gives (x: bool) {{ {sets} x = a; keep x; }}\n"
                        "unit main(a: bool) gives (x: bool) { use x = big(a); }")
        with self.assertRaises(TooLarge) as caught:
            alone(whole, "big")
        self.assertEqual(caught.exception.part, "flat")
        # What stands within a box is not flattened.
        self.assertEqual(len(boxed(whole)[2]), 6)
        with self.assertRaises(TooLarge) as caught:
            unit_by_unit(whole, 100)
        self.assertEqual(caught.exception.part, "flat")


class Boxed(unittest.TestCase):
    def test_by_hand(self):
        whole = program(STEP + """unit main(p: bool, event e: lv) gives (x: bool, m: lv) {
            local q: bool; local k: lv; assume p; keep not x or q; use x, m = step(p and q, else(e, 0));
            use q, k = step(true, 1); keep m <= k; assume q; }""")
        q = "q."
        def box(u, a, n, home):
            first, second = [(u + i, kind) for i, kind in (("a", BOOL), ("n", LV))]
            return (
                first + (home, 0, a), second + (home, 2, n),
                (u + "assume@0", BOOL, u + "a", 1, ("or", ("not", name(u + "a")), ("lt", name(u + "n"), ("int", 3)))),
                (u + "keep@0", BOOL, u + "a", 1, ("eq", name(u + "x"), name(u + "a"))),
                (u + "assume@1", BOOL, u + "a", 1, ("le", ("int", 0), name(u + "n"))),
                (u + "keep@1", BOOL, u + "a", 1, ("or", name(u + "x"), ("lt", name(u + "n"), name(u + "m")))),
                (u + "keep@2", BOOL, u + "a", 1, YES),
                (u + "@fine", BOOL, u + "a", 1, ("and", name(u + "assume@0"), name(u + "assume@1"))),
                (u + "@long", BOOL, u + "a", 1, long_of(u)),
                (u + "@due", BOOL, u + "a", 1, ("or", ("not", name(u + "@long")), (
                    "and", ("and", name(u + "keep@0"), name(u + "keep@1")), name(u + "keep@2")))))
        event = ("merge", "e@here", ((NO, ("when", ("int", 0), ("is", "e@here", NO))), (YES, name("e"))))
        wanted = (
            "flat", (("p", BOOL, 0), ("e", LV, 1), ("x.x", BOOL, "x.a"), ("x.m", LV, "x.a"), ("q.x", BOOL, "q.a"),
                     ("q.m", LV, "q.a")),
            (("assume@0", BOOL, None, 1, name("p")), ("keep@0", BOOL, None, 1, ("or", ("not", name("x")), name("q"))))
            + box("x.", ("and", name("p"), name("q")), event, None)
            + (("x", BOOL, None, 0, name("x.x")), ("m", LV, None, 0, name("x.m")))
            + box(q, YES, ("int", 1), None)
            + (("q", BOOL, None, 0, name("q.x")), ("k", LV, None, 0, name("q.m")),
               ("keep@1", BOOL, None, 1, ("le", name("m"), name("k"))), ("assume@1", BOOL, None, 1, name("q"))),
            ("x", "m"), ("assume@0", "assume@1", "x.@due", "q.@due"), ("keep@0", "x.@fine", "q.@fine", "keep@1"))
        self.assertEqual(boxed(whole), wanted)

    def test_one_claim_and_none(self):
        text = "unit u(a: bool) gives (x: bool) { %s x = a; keep x; }\nunit main(a: bool) gives (x: bool) { use x = u(a); }"
        told = boxed(program(text % ""))
        self.assertEqual(told[2], (
            ("x.a", BOOL, None, 0, name("a")), ("x.keep@0", BOOL, "x.a", 1, name("x.x")),
            ("x.@fine", BOOL, "x.a", 1, YES), ("x.@long", BOOL, "x.a", 1, long_of("x.")),
            ("x.@due", BOOL, "x.a", 1, ("or", ("not", name("x.@long")), name("x.keep@0"))),
            ("x", BOOL, None, 0, name("x.x"))))
        told = boxed(program(text % "assume a;"))
        self.assertEqual(told[2][1], ("x.assume@0", BOOL, "x.a", 1, name("x.a")))
        self.assertEqual(told[2][3], ("x.@fine", BOOL, "x.a", 1, name("x.assume@0")))
        three = boxed(program(text % "assume a; assume true; assume false;"))
        ands = [name(f"x.assume@{at}") for at in range(3)]
        self.assertEqual(three[2][5], ("x.@fine", BOOL, "x.a", 1, ("and", ("and", ands[0], ands[1]), ands[2])))

    def test_values_and_kinds_in_claims(self):
        whole = program("""kind md = mode(on, off); kind lv = num 0 .. 3 hold;
            unit u(a: md, n: num 0 .. 7 wrap) gives (x: md, r: row 2 of bool) { x = a; r = row(true, false);
              assume a == md.on; keep x == md.off; keep as(n, lv) < as(n, num 1 .. 2 wrap);
              keep any(r) or at(r, n); keep pick(a == x, all(r), vote(true, true, false)) xor sum(row(n, 1)) == max(n, 2); }
            unit main(a: md) gives (x: md) { local r: row 2 of bool; use x, r = u(a, 5); }""")
        told = {each[0]: each[4] for each in boxed(whole)[2]}
        self.assertEqual(told["x.assume@0"], ("eq", name("x.a"), ("mode", ("on", "off"), 0)))
        self.assertEqual(told["x.keep@1"], ("lt", ("as", name("x.n"), LV), ("as", name("x.n"), ("num", 1, 2, 1, "wrap"))))
        self.assertEqual(told["x.keep@2"], ("or", ("any", name("x.r")), ("at", name("x.r"), name("x.n"))))
        self.assertIn("x.keep@3", told)
        self.assertEqual(boxed(whole)[1][1:], (("x.x", ("mode", ("on", "off")), "x.a"), ("x.r", ("row", BOOL, 2), "x.a")))

    def same(self, text):
        """A program without boxes: its boxed flat program is its flat program."""
        whole = program(text)
        self.assertEqual(boxed(whole), flatten(whole))

    def test_no_boxes(self):
        unit = "unit u(a: bool) gives (x: bool) { x = a; %s }\n"
        main = "unit main(a: bool) gives (x: bool) { %s }"
        # No keep; with `every`; within a state; in a used unit.
        self.same(unit % "assume a;" + main % "use x = u(a);")
        self.same(unit % "keep x;" + main % "use x = u(a) every a;")
        self.same(unit % "keep x;" + main % "machine m { state s { use x = u(a); } }")
        self.same(unit % "keep x;" + "unit v(a: bool) gives (x: bool) { use x = u(a); }\n" + main % "use x = v(a);")
        self.same(unit % "keep x;")

    def test_other_exprs_in_claims(self):
        unit = "kind md = mode(on, off);\nunit u(a: bool, b: md) gives (x: bool) { local y: bool; y = a; x = a; %s keep x; }\n"
        main = "unit main(a: bool, b: md) gives (x: bool) { use x = u(a, b); }"
        for claim in (
                "keep y;", "assume y or a;", "keep true then x;", "keep true then last x;", "assume a then a;",
                "keep held(x, when(a, every 2 from 0), every 2 from 0);", "keep held(x, when(a, b is md.on), b is md.on);",
                "keep merge(b, md.on: when(a, b is md.on), md.off: when(x, b is md.off));",
                "keep weave(when(a, every 2 from 0), when(x, every 2 from 1));",
                "assume pick(a, x, not (true then last a));", "keep weave(when(a, every 1 from 0));",
                "keep any(row(a, x, y));", "assume as(1, num 0 .. 2 wrap) < as(sum(row(0, pick(y, 1, 2))), num 0 .. 2 wrap);"):
            self.same(unit % claim + main)
        for claim in ("", "keep a;", "assume b == md.on and x;", "keep pick(a, x, true);"):
            self.assertNotEqual(boxed(program(unit % claim + main)), flatten(program(unit % claim + main)))

    def test_boxes_beside_others(self):
        """What is used in no box is flattened, and its assumes and keeps are keeps, in the order of the equations."""
        whole = program("""unit low(a: bool) gives (x: bool) { x = not a; keep x or a; assume a; }
            unit mid2(a: bool) gives (x: bool) { use x = low(a); keep x != a; }
            unit main(a: bool) gives (x: bool, y: bool, z: bool, w: bool) {
              use y = mid2(x); use x = low(a) every a; keep y; use z = mid2(a); use w = low(w2); local w2: bool; w2 = z; }""")
        flat = boxed(whole)
        self.assertEqual(flat[1], (("a", BOOL, 0), ("y.x", BOOL, "y.a"), ("z.x", BOOL, "z.a"), ("w.x", BOOL, "w.a")))
        self.assertEqual(flat[4], ("y.@due", "z.@due", "w.@due"))
        self.assertEqual(flat[5], ("y.@fine", "x.keep@0", "x.assume@0", "keep@0", "z.@fine", "w.@fine"))
        names = [each[0] for each in flat[2]]
        self.assertEqual(names, [
            "y.a", "y.keep@0", "y.@fine", "y.@long", "y.@due", "y",
            "x.a", "x.@every", "x.x", "x.keep@0", "x.assume@0", "x", "keep@0",
            "z.a", "z.keep@0", "z.@fine", "z.@long", "z.@due", "z",
            "w.a", "w.keep@0", "w.assume@0", "w.@fine", "w.@long", "w.@due", "w", "w2"])

    def test_too_large(self):
        uses = " ".join(f"local v{at}: bool; use v{at} = u(a);" for at in range(50))
        unit = "unit u(a: bool) gives (x: bool) { keep x; x = a; }\n"
        main = "unit main(a: bool) gives (x: bool) { %s x = a; %s }"
        # A box with one in, one keep and one out has six equations.
        self.assertEqual(len(boxed(program(unit + main % (uses[:uses.index("local v49")], "local o: bool; o = a;" * 1)))[2]), 296)
        with self.assertRaises(TooLarge) as caught:
            boxed(program(unit + main % (uses, "")))
        self.assertEqual(caught.exception.part, "flat")
        more = " ".join(f"local o{at}: bool; o{at} = a;" for at in range(5))
        less = uses[:uses.index("local v49")]
        self.assertEqual(len(boxed(program(unit + main % (less, more)))[2]), 300)
        with self.assertRaises(TooLarge):
            boxed(program(unit + main % (less, more + "local p: bool; p = a;")))


SAMPLED = """kind lv = num 0 .. 3 hold;
unit u(a: bool, n: lv) gives (x: bool, m: lv) { assume n < 3; keep x or m == n; x = a; m = n; }
unit main(p: bool, n: lv, event e: lv) gives (x: bool, m: lv, y: bool) {
  local xs: bool; local ms: lv; local ys: bool; local k: lv; local b: bool;
  b = false then not last b;
  use xs, ms = u(when(p, b is true), when(n, b is true)); use ys, k = u(when(ms < 2, every 2 from 1), when(1, every 2 from 1));
  x = held(true, xs, b is true); m = held(0, ms, b is true);
  y = held(false, held(false, ys, every 2 from 1), b is true); }"""


class Loose(unittest.TestCase):
    """Boxed flat programs go through checks, runs and flows."""

    def test_shows_the_same(self):
        texts = [SAMPLED, STEP + """unit main(p: bool, event e: lv) gives (x: bool, m: lv) {
            use x, m = step(p, else(e, 0)); keep true then last m <= m; }"""]
        for text in texts:
            flat = boxed(program(text))
            kinds, clocks = checked(flat)
            self.assertEqual((kinds, clocks), (kinds_of(flat), clocks_of(flat)))
            flow = flow_of(flat)
            self.assertTrue(is_flow(flow) and is_straight(flow))
            self.assertEqual([each[2] for each in flow[1]],
                             [each[2] if each[2] in (0, 1) else 2 for each in flat[1]])
            for seed in range(8):
                rows = flat_rows(seed, flat, 20)
                self.assertEqual(list(FlowRun(flow).ticks(rows)), list(FlatRun(flat).ticks(rows)))

    def test_clocks(self):
        """A loose input has the clock of its home, and counts only at the ticks of this."""
        flat = boxed(program(SAMPLED))
        told = dict(zip([each[0] for each in flat[2]], clocks_of(flat)))
        layer = ("is", "b", YES)
        self.assertEqual(told["xs.a"], (layer,))
        self.assertEqual(told["xs"], (layer,))
        self.assertEqual(told["ys"], (layer, ("every", 2, 1, None)))
        self.assertEqual(told["xs.@due"], (layer,))
        run = FlatRun(flat)
        # b is 0 at the even ticks, so what the loose inputs are given then is not seen.
        shown = [run.tick((1, 0, None, 1, given, 0, 0))[:2] for given in (3, 2, 1, 0, 3)]
        self.assertEqual(shown, [(1, 0), (1, 2), (1, 2), (1, 0), (1, 0)])

    def test_not_there(self):
        flat = boxed(program(SAMPLED))
        shown = [each[3:] for each in FlatRun(flat).ticks([(1, 0, None, 1, 0, 0, 0)] * 4)]
        # The dues and the fines: those of the second box are there at each fourth tick.
        self.assertEqual([[entry is None for entry in each] for each in shown],
                         [[True] * 4, [False, True, False, True], [True] * 4, [False] * 4])

    def flat(self, event, *equations):
        return ("flat", (("a", BOOL, 0), ("l", LV, event)), equations, (equations[-1][0],), (), ())

    def test_kinds(self):
        made = self.flat("a", ("x", None, None, 0, ("add", name("l"), ("int", 1))))
        self.assertEqual(kinds_of(made), (LV,))
        with self.assertRaises(KindClash) as caught:
            kinds_of(self.flat("a", ("x", None, None, 0, name("l")), ("y", None, None, 0, ("not", name("l")))))
        self.assertEqual(caught.exception.at, 1)

    def test_clock_clash(self):
        sampled = ("s", BOOL, None, 0, ("when", name("a"), ("is", "a", YES)))
        good = self.flat("s", sampled, ("x", LV, None, 0, ("pick", name("s"), name("l"), name("l"))))
        self.assertEqual(clocks_of(good), ((("is", "a", YES),),) * 2)
        with self.assertRaises(ClockClash) as caught:
            clocks_of(self.flat("s", sampled, ("x", LV, None, 0, ("pick", name("a"), name("l"), name("l")))))
        self.assertEqual(caught.exception.at, 1)

    def test_rings(self):
        """A loose input hangs on the names in its clock: a knot with one is not let."""
        b = ("b", BOOL, None, 0, ("eq", name("h"), ("int", 1)))
        s = ("s", BOOL, None, 0, ("when", name("a"), ("is", "b", YES)))
        h = ("h", LV, None, 0, ("held", ("int", 0), name("l"), ("is", "b", YES), ()))
        made = self.flat("s", b, s, h)
        self.assertEqual(clocks_of(made)[1], (("is", "b", YES),))
        with self.assertRaises(Ring) as caught:
            check_rings(made)
        self.assertEqual(caught.exception.names, ("b", "h"))
        # The names of a box within a ring of the program around it hang on nothing of the unit.
        self.assertIsNone(check_rings(self.flat("s", ("b", BOOL, None, 0, name("a")), s, h)))

    def test_starts(self):
        """Its grade is set, though its home may come from what was never set."""
        home = ("s", BOOL, None, 0, ("last", name("a"), ()))
        made = self.flat("s", home, ("x", LV, None, 0, name("l")))
        self.assertEqual(grades_of(made), ((), "set"))
        self.assertIs(is_started(made), True)

    def test_flows_of_boxes_with_knots(self):
        whole = program("""unit u(a: bool) gives (x: bool) { keep x; x = a; }
            unit main(p: bool, q: bool) gives (x: bool, y: bool) {
              local z: bool; x = pick(p, y, q); y = pick(p, q, x); use z = u(x); }""")
        flat = boxed(whole)
        checked(flat)
        flow = flow_of(flat)
        self.assertFalse(is_straight(flow))
        rows = flat_rows(1, flat, 12)
        self.assertEqual(list(FlowRun(opened(flow)).ticks(rows)), list(FlatRun(flat).ticks(rows)))


KEEPER = "unit keeper(a: bool) gives (x: bool) { assume a; keep x; x = a; }\n"
LOSER = "unit loser(a: bool) gives (x: bool) { keep x; x = a; }\n"


class UnitByUnit(unittest.TestCase):
    def told(self, text, most=100):
        return unit_by_unit(program(text), most)

    def test_kept(self):
        self.assertEqual(self.told(KEEPER + "unit main(a: bool) gives (x: bool) { assume a; use x = keeper(a); keep x; }"),
                         ("kept",))
        self.assertEqual(self.told("unit main(a: bool) gives (x: bool) { assume a; keep x; x = a; }"), ("kept",))

    def test_open_by_a_unit(self):
        text = KEEPER + LOSER + "unit main(a: bool) gives (x: bool) { local y: bool; %s x = y; %s }"
        self.assertEqual(self.told(text % ("use y = loser(a);", "")), ("open", "loser"))
        # The first one in the order of the program counts, not of the boxes.
        other = "unit other(a: bool) gives (x: bool) { keep not x; x = a; }\n"
        both = "local z: bool; use z = other(a); use y = loser(a);"
        self.assertEqual(self.told(other + text % (both, "")), ("open", "other"))
        self.assertEqual(self.told(LOSER + other + "unit main(a: bool) gives (x: bool) { local y: bool; x = y; %s }" % both),
                         ("open", "loser"))

    def test_open_by_the_boxed_program(self):
        text = KEEPER + "unit main(a: bool) gives (x: bool) { %s use x = keeper(a); %s }"
        self.assertEqual(self.told(text % ("", "")), ("open", ""))
        self.assertEqual(self.told(text % ("assume a;", "keep not x;")), ("open", ""))
        self.assertEqual(self.told("unit main(a: bool) gives (x: bool) { keep x; x = a; }"), ("open", ""))
        # A unit that keeps nothing that it promises is no matter if it is in no box.
        self.assertEqual(self.told(LOSER + "unit main(a: bool) gives (x: bool) { assume a; use x = loser(a) every a; }"),
                         ("kept",))
        self.assertEqual(self.told(LOSER + "unit main(a: bool) gives (x: bool) { use x = loser(a) every a; }"), ("open", ""))

    def test_what_is_not_promised(self):
        """The boxed program knows nothing of a unit but what it promises."""
        exact = "unit exact(a: bool) gives (x: bool) { keep x == a; x = a; }\n"
        main = "unit main(a: bool) gives (x: bool) { assume a; use x = %s(a); keep x; }"
        weak = "unit weak(a: bool) gives (x: bool) { keep x == x; x = a; }\n"
        self.assertEqual(self.told(exact + main % "exact"), ("kept",))
        self.assertEqual(self.told(weak + main % "weak"), ("open", ""))
        self.assertEqual(decided(flow_of(flatten(program(weak + main % "weak"))), 100)[0], "kept")

    def test_given_up_for_ever(self):
        """A box whose assume was broken once promises nothing any more; so its keeps cannot be used."""
        main = """unit main(a: bool) gives (x: bool) { local gate: bool; gate = true then not last gate; local y: bool;
            use y = keeper(%s); x = y; keep %s; }"""
        self.assertEqual(self.told(KEEPER + main % ("gate or a", "not (gate or a) or y")), ("open", ""))
        self.assertEqual(self.told(KEEPER + main % ("gate or true", "y")), ("kept",))
        flat = boxed(program(KEEPER + main % ("gate or a", "not (gate or a) or y")))
        run = FlatRun(flat)
        shown = [dict(zip(flat[3] + flat[4] + flat[5], run.tick(row))) for row in ((0, 0), (0, 1), (1, 0))]
        self.assertEqual([each["y.@fine"] for each in shown], [1, 0, 1])
        self.assertEqual([each["y.@due"] for each in shown], [0, 1, 1])

    LEAN = """unit first(a: bool) gives (x: bool) { assume a; keep x; x = a; }
        unit second(b: bool) gives (y: bool) { assume b; keep y; y = b; }
        unit main(p: bool) gives (x: bool, y: bool) { use x = first(%s); use y = second(x); }"""

    def test_leaning_on_each_other(self):
        """Each box is given its assume by the other one, one of them within the tick."""
        self.assertEqual(self.told(self.LEAN % "true then last y"), ("kept",))
        self.assertEqual(self.told(self.LEAN % "p then last y"), ("open", ""))
        # Within the tick both ways nobody begins.
        ring = self.LEAN % "y"
        self.assertEqual(self.told(ring), ("open", ""))
        with self.assertRaises(Unsettled):
            checked(flatten(program(ring)))

    def test_sampled_boxes(self):
        text = KEEPER + """unit main(p: bool) gives (x: bool) { local b: bool; b = true then not last b; local y: bool;
            use y = keeper(when(%s, b is true)); x = held(true, y, b is true); keep x; }"""
        self.assertEqual(self.told(text % "b"), ("kept",))
        self.assertEqual(self.told(text % "p"), ("open", ""))

    def test_errors_in_their_order(self):
        unset = "unit unset(a: bool) gives (x: bool) { keep x; x = last a; }\n"
        ring = "unit ring(a: bool) gives (x: bool) { keep x or a; x = not x; }\n"
        main = "unit main(a: bool) gives (x: bool) { local y: bool; local z: bool; x = %s; %s }"
        use = {"unset": "use y = unset(a);", "loser": "use z = loser(a);", "ring": "use z = ring(a);"}
        with self.assertRaises(Unset) as caught:
            self.told(unset + LOSER + main % ("a", use["unset"] + use["loser"]))
        self.assertEqual(caught.exception.name, "x")
        # A unit ahead of it that is not kept is told at once.
        self.assertEqual(self.told(LOSER + unset + main % ("a", use["unset"] + use["loser"])), ("open", "loser"))
        with self.assertRaises(Unsettled):
            self.told(ring + unset + main % ("a", use["unset"] + use["ring"]))
        # The boxed flat program comes last.
        with self.assertRaises(Unset):
            self.told(KEEPER + main % ("last a", "use y = keeper(true); z = y;"))
        self.assertEqual(self.told(LOSER + main % ("last a", "y = a;" + use["loser"])), ("open", "loser"))

    def test_too_many(self):
        ins = ", ".join(f"i{at}: bool" for at in range(5))
        wide = f"unit wide({ins}) gives (x: bool) {{ keep x or not x; x = i0; }}\n"
        main = "unit main(a: bool) gives (x: bool) { local y: bool; y = a; %s }"
        with self.assertRaises(TooMany) as caught:
            self.told(wide + main % "use x = wide(a, a, a, a, a);")
        self.assertEqual(caught.exception.part, "rows")
        # The loose inputs count for the rows of the boxed flat program.
        outs = ", ".join(f"o{at}: bool" for at in range(4))
        many = f"unit many(a: bool) gives ({outs}) {{ keep o0 or not a; o0 = a; o1 = a; o2 = a; o3 = a; }}\n"
        use = "local u: bool; local v: bool; local w: bool; use x, u, v, w = many(true); "
        with self.assertRaises(TooMany) as caught:
            self.told(many + main % use)
        self.assertEqual(caught.exception.part, "rows")
        count = "unit count(a: bool) gives (x: bool) { keep x or not x; local n: num 0 .. 9 wrap; n = 0 then last n + 1; x = n < 5; }\n"
        self.assertEqual(self.told(count + main % "use x = count(a);", 40), ("kept",))
        with self.assertRaises(TooMany) as caught:
            self.told(count + main % "use x = count(a);", 9)
        self.assertEqual(caught.exception.part, "states")
        with self.assertRaises(TooMany) as caught:
            self.told(KEEPER + main % "use x = keeper(true);", 0)
        self.assertEqual(caught.exception.part, "states")

    def test_kept_programs_keep(self):
        """If a drawn program is kept unit by unit, its whole contract is kept, also of boxed units."""
        rng = random.Random(53)
        counts = {}
        for _ in range(400):
            whole = program(drawn(rng))
            flat = flatten(whole)
            told = unit_by_unit(whole, 5000)
            if told == ("kept",):
                self.assertEqual(decided(flow_of(flat), 5000)[0], "kept")
            checked(flat)
            counts[told] = counts.get(told, 0) + 1
        self.assertGreater(counts[("kept",)], 30)
        self.assertGreater(counts[("open", "")], 20)
        self.assertGreater(counts[("open", "u0")], 10)


def expr(rng, names, depth):
    if depth == 0 or rng.random() < 0.3:
        return rng.choice(names + ["true"])
    inner = [expr(rng, names, depth - 1) for _ in range(2)]
    return rng.choice(["({} and {})", "({} or {})", "(not {} or {})", "({} == {})"]).format(*inner)


def drawn(rng):
    """A program with two units that promise something, often in boxes that lean on each other by last."""
    text = ""
    for at in range(2):
        body = rng.choice(["a", "a or b", "pick(b, a, true then last a)", "a and (true then last b)", "true then last x"])
        claims = [f"assume {expr(rng, ['a', 'b'], 1)};" for _ in range(rng.choice([0, 1]))]
        claims += [rng.choice([f"keep {expr(rng, ['a', 'b', 'x'], 2)};", "keep x or not a;", "keep x;", "keep x == a;"])
                   for _ in range(rng.choice([1, 2]))]
        text += f"unit u{at}(a: bool, b: bool) gives (x: bool) {{ {' '.join(claims)} x = {body}; }}\n"
    given = lambda names: expr(rng, names + ["(true then last x)", "(true then last y)"], 1)
    claims = [f"assume {expr(rng, ['p'], 1)};" for _ in range(rng.choice([0, 1]))]
    claims += [f"keep {expr(rng, ['p', 'x', 'y'], 2)};" for _ in range(rng.choice([0, 1]))]
    every = rng.choice(["", "", "", " every p"])
    return text + f"""unit main(p: bool) gives (x: bool, y: bool) {{ {' '.join(claims)}
        use x = u0({given(['p'])}, {given(['p'])}); use y = u{rng.choice([0, 1])}({given(['p', 'x'])}, {given(['x'])}){every}; }}"""


if __name__ == "__main__":
    unittest.main()
