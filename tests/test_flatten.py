import unittest

from keepsgoing.errors import TooLarge
from keepsgoing.flatten import flatten
from keepsgoing.naming import check_names
from keepsgoing.reading import read_program

BOOL = ("bool",)
LV = ("num", 0, 9, 1, "hold")
MD = ("mode", ("p", "q"))
KINDS = "kind lv = num 0..9 hold; kind md = mode(p, q); kind rw = row 2 of lv; "
YES, NO = ("truth", 1), ("truth", 0)


def name(text):
    return ("name", text)


def flat(text):
    program = read_program(KINDS + text)
    check_names(program)
    return flatten(program)


def eqs(text):
    return flat(text)[2]


def top_expr(text, head="unit t(a: lv, b: bool, event e: lv) gives (x: lv)"):
    """The flat expr of x in a top."""
    return [eq for eq in eqs(f"{head} {{ x = {text}; }}") if eq[0] == "x"][0][4]


class Whole(unittest.TestCase):
    def test_inputs_and_outputs(self):
        made = flat("unit t(a: rw, event e: lv, c: md) gives (x: lv, y: rw) { keep true; y = a; "
                    "assume c == md.q; x = 1; assume false; keep 1 == 2; }")
        row = ("row", LV, 2)
        self.assertEqual(made, (
            "flat", (("a", row, 0), ("e", LV, 1), ("c", MD, 0)), (
                ("keep@0", BOOL, None, 1, YES), ("y", row, None, 0, name("a")),
                ("assume@0", BOOL, None, 1, ("eq", name("c"), ("mode", ("p", "q"), 1))),
                ("x", LV, None, 0, ("int", 1)), ("assume@1", BOOL, None, 1, NO),
                ("keep@1", BOOL, None, 1, ("eq", ("int", 1), ("int", 2)))),
            ("x", "y"), ("assume@0", "assume@1"), ("keep@0", "keep@1")))

    def test_locals(self):
        self.assertEqual(eqs("unit t(a: lv) gives (x: lv) { local l; local k: md; x = l; "
                             "l = a; k = md.p; }"), (
            ("x", LV, None, 0, name("l")), ("l", None, None, 0, name("a")),
            ("k", MD, None, 0, ("mode", ("p", "q"), 0))))


class Exprs(unittest.TestCase):
    def same(self, text, expr):
        self.assertEqual(top_expr(text), expr)

    def test_plain_ones(self):
        self.same("- 5", ("int", -5))
        self.same("true", YES)
        self.same("a", name("a"))
        self.same("md.q", ("mode", ("p", "q"), 1))
        self.same("pick(b, a + 1, - a)", ("pick", name("b"), ("add", name("a"), ("int", 1)),
                                          ("neg", name("a"))))
        self.same("sum(row(a, 1))", ("sum", ("row", name("a"), ("int", 1))))
        self.same("as(a, lv)", ("as", name("a"), LV))
        self.same("as(a, num 0..1 per 2 wrap)", ("as", name("a"), ("num", 0, 1, 2, "wrap")))

    def test_memory(self):
        self.same("last a", ("last", name("a"), ()))
        self.same("1 then last x", ("then", ("int", 1), ("last", name("x"), ()), ()))
        self.same("held(a, a, every 3 from 2)",
                  ("held", name("a"), name("a"), ("every", 3, 2, None), ()))

    def test_layers(self):
        self.same("when(a, b is true)", ("when", name("a"), ("is", "b", YES)))
        self.same("when(a, b is md.q)", ("when", name("a"), ("is", "b", ("mode", ("p", "q"), 1))))
        self.same("when(a, every 3 from 2)", ("when", name("a"), ("every", 3, 2, None)))
        self.same("weave(a, 1)", ("weave", name("a"), ("int", 1)))

    def test_arms_ascend(self):
        self.same("merge(b, true: 1, false: a)", ("merge", "b", ((NO, name("a")), (YES, ("int", 1)))))
        self.same("merge(b, false: 1, true: a)", ("merge", "b", ((NO, ("int", 1)), (YES, name("a")))))
        zero, one = ("mode", ("p", "q"), 0), ("mode", ("p", "q"), 1)
        self.same("merge(b, md.q: 1, md.p: 2)", ("merge", "b", ((zero, ("int", 2)), (one, ("int", 1)))))

    def test_events(self):
        self.same("here(e)", name("e@here"))
        self.same("fresh(e, 3, a)", ("fresh", "e", 3, name("a")))
        self.same("else(e, a + 1)", ("merge", "e@here", (
            (NO, ("when", ("add", name("a"), ("int", 1)), ("is", "e@here", NO))), (YES, name("e")))))


SUB = ("unit sub(i: lv, j: md) gives (o: lv, r: bool) { assume b1; local b1: bool; local c; "
       "b1 = last r; c = i; o = c; r = held(true, b1, every 2 from 1); keep r; assume r; } ")


def sub_eqs(prefix, home, resets, args, every=None):
    """The equations of a use of the unit sub, up to those of its names."""
    inner = prefix + "i"
    found = [(inner, LV, home, 0, args[0]), (prefix + "j", MD, home, 2, args[1])]
    if every is not None:
        found.append((prefix + "@every", BOOL, home, 2, every))
        resets = resets + (prefix + "@every",)
    layer = ("every", 2, 1, inner)
    return found + [
        (prefix + "assume@0", BOOL, inner, 1, name(prefix + "b1")),
        (prefix + "b1", BOOL, inner, 0, ("last", name(prefix + "r"), resets)),
        (prefix + "c", None, inner, 0, name(prefix + "i")),
        (prefix + "o", LV, inner, 1, name(prefix + "c")),
        (prefix + "r", BOOL, inner, 1, ("held", YES, name(prefix + "b1"), layer, resets)),
        (prefix + "keep@0", BOOL, inner, 1, name(prefix + "r")),
        (prefix + "assume@1", BOOL, inner, 1, name(prefix + "r"))]


class Uses(unittest.TestCase):
    def test_use(self):
        made = flat(SUB + "unit t(a: lv, m: md) gives (x: lv) { local y; use x, y = sub(a + 1, m); "
                    "keep y; assume y; }")
        wanted = sub_eqs("x.", None, (), [("add", name("a"), ("int", 1)), name("m")])
        wanted += [("x", LV, None, 0, name("x.o")), ("y", None, None, 0, name("x.r")),
                   ("keep@0", BOOL, None, 1, name("y")), ("assume@0", BOOL, None, 1, name("y"))]
        self.assertEqual(made[2], tuple(wanted))
        self.assertEqual(made[3:], (("x",), ("assume@0",),
                                    ("x.assume@0", "x.keep@0", "x.assume@1", "keep@0")))

    def test_every(self):
        made = flat(SUB + "unit t(a: lv, m: md) gives (x: lv, y: bool) { "
                    "use x, y = sub(a, m) every last y; }")
        every = ("last", name("y"), ())
        wanted = sub_eqs("x.", None, (), [name("a"), name("m")], every)
        wanted += [("x", LV, None, 0, name("x.o")), ("y", BOOL, None, 0, name("x.r"))]
        self.assertEqual(made[2], tuple(wanted))

    def test_use_in_use(self):
        made = flat(SUB + "unit mid1(i: lv) gives (o: lv) { local k; "
                    "use o, k = sub(last i, md.p) every true; keep k; } "
                    "unit t(a: lv) gives (x: lv) { use x = mid1(when(a, every 3 from 0)) every false; }")
        arg = ("when", name("a"), ("every", 3, 0, None))
        resets = ("x.@every",)
        wanted = [("x.i", LV, None, 0, arg), ("x.@every", BOOL, None, 2, NO)]
        wanted += sub_eqs("x.o.", "x.i", resets,
                          [("last", name("x.i"), resets), ("mode", ("p", "q"), 0)], YES)
        wanted += [("x.o", LV, "x.i", 1, name("x.o.o")), ("x.k", None, "x.i", 0, name("x.o.r")),
                   ("x.keep@0", BOOL, "x.i", 1, name("x.k")), ("x", LV, None, 0, name("x.o"))]
        self.assertEqual(made[2], tuple(wanted))
        self.assertEqual(made[5], ("x.o.assume@0", "x.o.keep@0", "x.o.assume@1", "x.keep@0"))


M = ("mode", ("s", "t"))
S, T = M + (0,), M + (1,)


class Machines(unittest.TestCase):
    def test_one_state(self):
        one = ("mode", ("s",))
        only = one + (0,)
        self.assertEqual(eqs("unit t(a: lv) gives (x: lv) { machine m { state s { x = a; } } }"), (
            ("m@at", one, None, 1, ("then", only, ("last", name("m@next"), ()), ())),
            ("m@fresh", BOOL, None, 1, ("then", NO, ("last", name("m@goes"), ()), ())),
            ("m@now", one, None, 1, only),
            ("m@new", BOOL, None, 1, name("m@fresh")),
            ("m.s@here", BOOL, None, 0, ("when", YES, ("is", "m@now", only))),
            ("m.s@anew", BOOL, None, 1, ("and", ("eq", name("m@now"), only), name("m@new"))),
            ("m.s.x", LV, "m.s@here", 0, ("when", name("a"), ("is", "m@now", only))),
            ("m@next", one, None, 1, ("merge", "m@now", ((only, only),))),
            ("m@goes", BOOL, None, 1, ("merge", "m@now", ((only, NO),))),
            ("x", LV, None, 0, ("merge", "m@now", ((only, name("m.s.x")),)))))

    def test_one_state_that_is_left(self):
        only = ("mode", ("s",), 0)
        made = eqs("unit t(a: bool) gives (x: bool) { x = a; machine m { state s { "
                   "unless a go s; until not a back s; until true go s; } } }")
        told = {eq[0]: eq[4] for eq in made}
        seen = ("when", name("a"), ("is", "m@now", only))
        self.assertEqual(told["m@now"], ("pick", name("a"), only, only))
        self.assertEqual(told["m@new"], ("pick", name("a"), YES, name("m@fresh")))
        self.assertEqual(told["m@next"], ("merge", "m@now", (
            (only, ("pick", ("not", seen), only, ("pick", YES, only, only))),)))
        self.assertEqual(told["m@goes"], ("merge", "m@now", (
            (only, ("pick", ("not", seen), NO, ("pick", YES, YES, NO))),)))

    TWO = """unit t(a: lv, b: bool) gives (x: lv, y: bool) {
      local l; l = a; local k: md;
      machine m {
        state s { unless b go t; unless y1 back s; local v: md; v = k; x = last v1 + l; local v1: lv;
          v1 = x; k = md.p; until v1 == l go t; }
        state t { k = md.q; x = l; until b back s; }
      }
      y = b; local y1; y1 = last y; }"""

    def test_two_states(self):
        on_s, on_t = ("is", "m@now", S), ("is", "m@now", T)
        at_s = ("eq", name("m@at"), S)
        here, anew, put = "m.s@here", "m.s@anew", ("m.s@anew",)
        y1 = name("y1")
        wanted = (
            ("l", None, None, 0, name("a")),
            ("m@at", M, None, 1, ("then", S, ("last", name("m@next"), ()), ())),
            ("m@fresh", BOOL, None, 1, ("then", NO, ("last", name("m@goes"), ()), ())),
            ("m@now", M, None, 1,
             ("pick", at_s, ("pick", name("b"), T, ("pick", y1, S, S)), T)),
            ("m@new", BOOL, None, 1, (
                "pick", at_s, ("pick", name("b"), YES, ("pick", y1, NO, name("m@fresh"))),
                name("m@fresh"))),
            (here, BOOL, None, 0, ("when", YES, on_s)),
            (anew, BOOL, None, 1, ("and", ("eq", name("m@now"), S), name("m@new"))),
            ("m.s.v", MD, here, 0, name("m.s.k")),
            ("m.s.x", LV, here, 0,
             ("add", ("last", name("m.s.v1"), put), ("when", name("l"), on_s))),
            ("m.s.v1", LV, here, 0, name("m.s.x")),
            ("m.s.k", MD, here, 0, ("mode", ("p", "q"), 0)),
            ("m.t@here", BOOL, None, 0, ("when", YES, on_t)),
            ("m.t@anew", BOOL, None, 1, ("and", ("eq", name("m@now"), T), name("m@new"))),
            ("m.t.k", MD, "m.t@here", 0, ("mode", ("p", "q"), 1)),
            ("m.t.x", LV, "m.t@here", 0, ("when", name("l"), on_t)),
            ("m@next", M, None, 1, ("merge", "m@now", (
                (S, ("pick", ("eq", name("m.s.v1"), ("when", name("l"), on_s)), T, S)),
                (T, ("pick", ("when", name("b"), on_t), S, T))))),
            ("m@goes", BOOL, None, 1, ("merge", "m@now", (
                (S, ("pick", ("eq", name("m.s.v1"), ("when", name("l"), on_s)), YES, NO)),
                (T, ("pick", ("when", name("b"), on_t), NO, NO))))),
            ("x", LV, None, 0, ("merge", "m@now", ((S, name("m.s.x")), (T, name("m.t.x"))))),
            ("k", MD, None, 0, ("merge", "m@now", ((S, name("m.s.k")), (T, name("m.t.k"))))),
            ("y", BOOL, None, 0, name("b")),
            ("y1", None, None, 0, ("last", name("y"), ())))
        self.assertEqual(eqs(self.TWO), wanted)

    def test_three_states(self):
        made = eqs("unit t(a: bool) gives (x: bool) { x = a; machine m { state s { } state t { "
                   "unless a back u; } state u { } } }")
        told = {eq[0]: eq[4] for eq in made}
        s, t, u = (("mode", ("s", "t", "u"), at) for at in range(3))
        at = name("m@at")
        fresh = name("m@fresh")
        self.assertEqual(told["m@now"], ("pick", ("eq", at, s), s, (
            "pick", ("eq", at, t), ("pick", name("a"), u, t), u)))
        self.assertEqual(told["m@new"], ("pick", ("eq", at, s), fresh, (
            "pick", ("eq", at, t), ("pick", name("a"), NO, fresh), fresh)))

    def test_machines_in_machines(self):
        made = eqs("unit t(a: lv, b: bool) gives (x: lv) { local g; g = a; "
                   "machine m { state s { local h; h = b; machine n { "
                   "unless_ } } } }".replace(
                       "unless_", "state u { unless h go u; x = last a + (1 then g); "
                                  "local d; d = held(a, when(x, every 2 from 0), every 2 from 0); "
                                  "until h == b back u; }"))
        told = {eq[0]: eq[1:] for eq in made}
        one, two = ("mode", ("s",), 0), ("mode", ("u",), 0)
        outer, inner = ("is", "m@now", one), ("is", "m.s.n@now", two)
        put = ("m.s@anew", "m.s.n.u@anew")

        def seen(x):
            return ("when", ("when", name(x), outer), inner)
        self.assertEqual([eq[0] for eq in made], [
            "g", "m@at", "m@fresh", "m@now", "m@new", "m.s@here", "m.s@anew", "m.s.h",
            "m.s.n@at", "m.s.n@fresh", "m.s.n@now", "m.s.n@new", "m.s.n.u@here", "m.s.n.u@anew",
            "m.s.n.u.x", "m.s.n.u.d", "m.s.n@next", "m.s.n@goes", "m.s.x", "m@next", "m@goes", "x"])
        resets = ("m.s@anew",)
        self.assertEqual(told["m.s.n@at"], (("mode", ("u",)), "m.s@here", 1, (
            "then", two, ("last", name("m.s.n@next"), resets), resets)))
        self.assertEqual(told["m.s.n@now"], (("mode", ("u",)), "m.s@here", 1,
                                             ("pick", name("m.s.h"), two, two)))
        self.assertEqual(told["m.s.n.u@here"], (BOOL, "m.s@here", 0, ("when", YES, inner)))
        self.assertEqual(told["m.s.n.u@anew"], (BOOL, "m.s@here", 1, (
            "and", ("eq", name("m.s.n@now"), two), name("m.s.n@new"))))
        self.assertEqual(told["m.s.n.u.x"], (LV, "m.s.n.u@here", 0, (
            "add", ("last", seen("a"), put), ("then", ("int", 1), seen("g"), put))))
        layer = ("every", 2, 0, "m.s.n.u@here")
        self.assertEqual(told["m.s.n.u.d"], (None, "m.s.n.u@here", 0, (
            "held", seen("a"), ("when", name("m.s.n.u.x"), layer), layer, put)))
        test = ("eq", ("when", name("m.s.h"), inner), seen("b"))
        self.assertEqual(told["m.s.n@next"][3], ("merge", "m.s.n@now", (
            (two, ("pick", test, two, two)),)))
        self.assertEqual(told["m.s.n@goes"][3], ("merge", "m.s.n@now", (
            (two, ("pick", test, NO, NO)),)))
        self.assertEqual(told["m.s.x"], (LV, "m.s@here", 0, (
            "merge", "m.s.n@now", ((two, name("m.s.n.u.x")),))))

    def test_layers_in_states(self):
        made = eqs("unit t(b: bool) gives (x: bool) { machine m { state s { x = b; local l; "
                   "l = when(b, x is true); } } }")
        told = {eq[0]: eq[4] for eq in made}
        seen = ("when", name("b"), ("is", "m@now", ("mode", ("s",), 0)))
        self.assertEqual(told["m.s.l"], ("when", seen, ("is", "m.s.x", YES)))

    def test_units_in_states_and_machines_in_units(self):
        made = flat("unit sub(i: lv) gives (o: lv) { machine m { state s { o = last i; } } keep true; } "
                    "unit t(a: lv) gives (x: lv) { machine m { state s { use x = sub(a) every false; } "
                    "} assume true; }")
        told = {eq[0]: eq[1:] for eq in made[2]}
        only = ("mode", ("s",), 0)
        self.assertEqual(told["m.s.x.i"], (LV, "m.s@here", 0, ("when", name("a"), ("is", "m@now", only))))
        self.assertEqual(told["m.s.x.@every"], (BOOL, "m.s@here", 2, NO))
        resets = ("m.s@anew", "m.s.x.@every")
        self.assertEqual(told["m.s.x.m@at"], (("mode", ("s",)), "m.s.x.i", 1, (
            "then", only, ("last", name("m.s.x.m@next"), resets), resets)))
        seen = ("when", name("m.s.x.i"), ("is", "m.s.x.m@now", only))
        self.assertEqual(told["m.s.x.m.s.o"], (LV, "m.s.x.m.s@here", 0, (
            "last", seen, resets + ("m.s.x.m.s@anew",))))
        # The outs of a unit that is used are tied, also those that its machines define.
        self.assertEqual(told["m.s.x.o"], (LV, "m.s.x.i", 1, (
            "merge", "m.s.x.m@now", ((only, name("m.s.x.m.s.o")),))))
        self.assertEqual(told["m.s.x"], (LV, "m.s@here", 0, name("m.s.x.o")))
        self.assertEqual(made[4:], (("assume@0",), ("m.s.x.keep@0",)))

    def test_kind_of_the_scope_that_declares(self):
        made = eqs("unit t(b: bool) gives (x: bool) { local l; local k: md; x = b; machine m { "
                   "state s { machine n { state u { l = 1; k = md.p; } } } } }")
        told = {eq[0]: eq[1] for eq in made}
        for each in ("m.s.n.u.l", "m.s.l", "l"):
            self.assertIsNone(told[each])
        for each in ("m.s.n.u.k", "m.s.k", "k"):
            self.assertEqual(told[each], MD)


class Sizes(unittest.TestCase):
    def many(self, count):
        rows = "".join(f"local l{at}; l{at} = a; " for at in range(count - 1))
        return flat(f"unit t(a: lv) gives (x: lv) {{ {rows} x = a; }}")

    def too_large(self, text):
        with self.assertRaises(TooLarge) as caught:
            flat(text)
        self.assertEqual(caught.exception.part, "flat")

    def test_300(self):
        self.assertEqual(len(self.many(300)[2]), 300)
        with self.assertRaises(TooLarge) as caught:
            self.many(301)
        self.assertEqual(caught.exception.part, "flat")

    def test_units_that_double(self):
        text = "unit u0(a: lv) gives (x: lv) { x = a; } "
        for at in range(1, 60):
            text += (f"unit u{at}(a: lv) gives (x: lv) {{ local l; use l = u{at - 1}(a); "
                     f"use x = u{at - 1}(l); }} ")
        self.too_large(text)

    def test_a_long_line_of_units(self):
        text = "unit u0(a: lv) gives (x: lv) { x = a; } "
        for at in range(1, 150):
            text += f"unit u{at}(a: lv) gives (x: lv) {{ use x = u{at - 1}(a); }} "
        self.assertEqual(len(eqs(text)), 299)
        text += "unit last1(a: lv) gives (x: lv, y: lv) { use x = u149(a); y = a; }"
        self.too_large(text)

    def test_many_turns(self):
        turns = "unless b go s; " * 2000
        made = eqs(f"unit t(b: bool) gives (x: bool) {{ x = b; machine m {{ state s {{ {turns} }} }} }}")
        expr = [eq[4] for eq in made if eq[0] == "m@now"][0]
        depth = 0
        while expr[0] == "pick":
            expr = expr[3]
            depth += 1
        self.assertEqual(depth, 2000)


if __name__ == "__main__":
    unittest.main()
