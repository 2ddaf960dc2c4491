import itertools
import unittest

from keepsgoing.errors import BadNumber, BadUse, NameFault, Twice, Unknown
from keepsgoing.naming import check_names
from keepsgoing.reading import read_program

KINDS = "kind lv = num 0..9 hold; kind md = mode(p, q); kind ot = mode(p, q); kind rw = row 2 of lv;"
SUB = "unit sub(i: lv, j: bool) gives (o: lv, r: bool) { o = i; r = j; }"
TOP = "unit top(a: lv, b: bool, event e: lv, event f: bool) gives (x: lv, y: bool)"


def fault(text):
    program = read_program(text)
    try:
        return check_names(program)
    except NameFault as error:
        return error


def top(items, head=TOP):
    return f"{KINDS} {SUB} {head} {{ {items} }}"


def full(items):
    return top("x = a; y = b; " + items)


def state(items, unless="", until=""):
    """A text whose top has a machine with one state more, which defines x."""
    return top(f"y = b; local z; z = b; machine m {{ state s {{ x = a; }} "
               f"state t {{ {unless} x = a; {items} {until} }} }}")


class Faults(unittest.TestCase):
    def right(self, text):
        self.assertIsNone(fault(text))

    def wrong(self, text, told, value):
        error = fault(text)
        self.assertIs(type(error), told, text)
        self.assertEqual(error.value if told is BadNumber else error.name, value, text)


class Kinds(Faults):
    def kind(self, kind, told, value):
        """A fault of a kind of a program, of an in, an out, a local and an as."""
        self.wrong(f"{KINDS} kind k = {kind}; {SUB}", told, value)
        self.wrong(f"{KINDS} unit u(a: {kind}) gives (b: lv) {{ }}", told, value)
        self.wrong(f"{KINDS} unit u(a: lv) gives (b: {kind}) {{ }}", told, value)
        self.wrong(full(f"local l: {kind}; l = 1;"), told, value)
        self.wrong(full(f"local l; l = as(a, {kind});"), told, value)

    def test_alone(self):
        self.kind("nix", Unknown, "nix")
        self.kind("num 3..2 wrap", BadNumber, 2)
        self.kind("num 0..-1 hold", BadNumber, -1)
        self.kind("num 0..5 per 0 wrap", BadNumber, 0)
        self.kind("num 0..5 per 101 wrap", BadNumber, 101)
        self.kind("mode(a, b, c, d, f, g, h, i, j)", BadNumber, 9)
        self.kind("mode(c, a, b, b, a)", Twice, "b")
        self.kind("row 2 of row 2 of bool", BadUse, "row")
        self.kind("row 2 of rw", BadUse, "row")
        self.kind("row 0 of bool", BadNumber, 0)
        self.kind("row 7 of lv", BadNumber, 7)
        self.kind("row 2 of nix", Unknown, "nix")

    def test_in_order(self):
        self.kind("num 3..2 per 0 wrap", BadNumber, 2)
        self.kind("mode(a, a, b, c, d, f, g, h, i)", BadNumber, 9)
        self.kind("row 7 of num 3..2 wrap", BadNumber, 2)
        self.kind("row 7 of rw", BadUse, "row")
        self.kind("row 7 of row 8 of bool", BadNumber, 8)
        self.kind("row 7 of row 2 of bool", BadUse, "row")

    def test_right(self):
        for kind in ("bool", "num 3..3 wrap", "num -1000..1000 per 100 hold", "lv", "rw", "md",
                     "mode(a, b, c, d, f, g, h, i)", "row 1 of md", "row 6 of lv"):
            self.right(f"kind kk = bool; {KINDS} kind k = {kind}; {SUB}")
        self.right(full("local l; l = as(a, lv);"))

    def test_as(self):
        for kind in ("bool", "md", "rw", "row 2 of lv"):
            self.wrong(full(f"local l; l = as(a, {kind});"), BadUse, "as")
        self.wrong(full("local l; l = as(nix, bool);"), Unknown, "nix")

    def test_names_of_kinds(self):
        self.wrong(f"kind k = bool; kind k = num 3..2 wrap; {SUB}", Twice, "k")
        self.wrong(f"kind k = l; kind l = bool; {SUB}", Unknown, "l")
        self.wrong(f"kind k = k; {SUB}", Unknown, "k")
        self.right(f"kind k = bool; kind l = k; {KINDS} {SUB}")
        self.wrong("kind k = row 2 of bool; kind l = row 2 of k; " + SUB, BadUse, "row")
        self.right("kind k = row 2 of bool; kind l = k; kind lv = bool; " + SUB)

    def test_kinds_are_ahead_of_units(self):
        self.wrong("unit u(a: nix) gives (a: bool) { }".join(["kind k = num 2..1 wrap;", ""]),
                   BadNumber, 1)


class Units(Faults):
    def test_units(self):
        self.wrong(f"{KINDS} {SUB} {SUB}", Twice, "sub")
        self.wrong(f"{KINDS} {SUB} unit sub(event a: nix) gives (o: lv) {{ }}", Twice, "sub")

    def test_ins_and_outs(self):
        last = "unit v(a: bool) gives (b: bool) { b = a; }"
        self.wrong(f"unit u(event a: bool) gives (b: bool) {{ b = a; }} {last}", BadUse, "a")
        self.wrong(f"unit u(event a: nix) gives (b: bool) {{ b = a; }} {last}", BadUse, "a")
        self.right("unit u(event a: bool) gives (b: bool) { b = here(a); }")
        self.wrong("unit u(a: bool, a: bool) gives (b: bool) { b = a; }", Twice, "a")
        self.wrong("unit u(a: bool) gives (b: bool, a: bool) { b = a; }", Twice, "a")
        self.wrong("unit u(a: bool, a: nix) gives (b: bool) { b = a; }", Unknown, "nix")
        self.wrong("unit u(a: bool, b: bool) gives (b: nix) { b = a; }", Unknown, "nix")

    def test_faults_ahead_and_behind(self):
        good = "unit u(a: bool) gives (b: bool) { b = a; }"
        self.right(good)
        self.wrong("unit u(a: bool) gives (b: bool) { b = c; }", Unknown, "c")
        self.right(good)
        first = "unit v(a: bool) gives (b: bool) { b = d; }"
        self.wrong(f"{first} unit u(a: bool) gives (b: bool) {{ b = c; }}", Unknown, "d")


class Scopes(Faults):
    def test_right(self):
        self.right(full(""))
        self.right(state(""))
        self.right(state("local l; l = x; machine n { state u { } }", "unless here(e) go s;",
                         "until l == a back t;"))

    def test_declaring(self):
        for items in ("local x;", "local a;", "local l; local l;", "machine b { state s { } }",
                      "machine m { state s { } } machine m { state s { } }",
                      "local m; machine m { state s { } }"):
            name = items.split()[-1 if items.startswith("local l") else 1].strip(";")
            name = "m" if "machine m" in items else name
            self.wrong(full(items), Twice, name)
        self.wrong(full("local a: nix;"), Unknown, "nix")
        self.wrong(state("local a;"), Twice, "a")
        self.wrong(state("local z;"), Twice, "z")
        self.wrong(state("local m;"), Twice, "m")
        self.wrong(state("machine x { state s { } }"), Twice, "x")
        # A name of another state is not visible.
        self.right(top("y = b; machine m { state s { local l; l = a; x = l; } "
                       "state t { local l; l = a; x = l; } }"))
        self.wrong(full("machine m { state s { local l; l = a; } } local r; r = l;"), Unknown, "l")

    def test_defining(self):
        self.wrong(full("nix = a;"), Unknown, "nix")
        self.wrong(full("use nix, y = sub(a, b);"), Unknown, "nix")
        self.wrong(full("a = 1;"), BadUse, "a")
        self.wrong(full("e = 1;"), BadUse, "e")
        self.wrong(full("machine m { state s { } } m = 1;"), BadUse, "m")
        self.wrong(full("x = a;"), Twice, "x")
        self.wrong(top("use x, y = sub(a, b); y = b;"), Twice, "y")
        self.wrong(top("use x, x = sub(a, b); y = b;"), Twice, "x")
        self.wrong(full("machine m { state s { x = 1; } }"), Twice, "x")
        self.wrong(full("machine m { state s { nix = 1; } }"), Unknown, "nix")
        self.wrong(full("machine m { state s { a = 1; } }"), BadUse, "a")
        self.wrong(full("machine m { state s { machine n { state u { nix = 1; } } } }"),
                   Unknown, "nix")
        self.right(top("machine m { state s { machine n { state u { x = a; y = b; x1 = 1; } } "
                       "local x1; } }"))

    def test_each_name_of_a_machine_once(self):
        # The first state defines x twice: the machine defines it once, so the state tells.
        self.wrong(top("y = b; machine m { state s { x = a; x = a; } }"), Twice, "x")

    def test_states_define_what_the_machine_defines(self):
        self.wrong(state("y = b;"), BadUse, "y")
        self.wrong(state("z = b;"), BadUse, "z")
        self.wrong(top("y = b; machine m { state s { x = a; } state t { } }"), BadUse, "x")
        self.wrong(top("machine m { state s { x = a; y = b; } state t { local l; } }"), BadUse, "x")
        self.wrong(top("local l; l = a; machine m { state s { x = a; y = b; } state t { l = a; } }"),
                   BadUse, "l")
        self.wrong(state("local l; local k;"), BadUse, "l")
        self.wrong(top("y = b; machine m { state s { x = a; local l; } }"), BadUse, "l")

    def test_all_must_be_defined(self):
        self.wrong(top("y = b;"), BadUse, "x")
        self.wrong(top("x = a; local l;"), BadUse, "y")
        self.wrong(full("local l; local k;"), BadUse, "l")
        self.right(full("local l; use l, k = sub(a, b); local k;"))
        self.right(full("machine m { state s { l = 1; } } local l;"))

    def test_order_of_the_three_looks(self):
        self.wrong(full("nix = a; local l: nil;"), Unknown, "nil")
        self.wrong(full("local l; nix = a; local a;"), Twice, "a")
        self.wrong(full("l = nil; a = 1; local l;"), BadUse, "a")
        self.wrong(full("l = nil; local l; local k;"), BadUse, "k")
        self.wrong(full("l = nil; local l; machine m { state s { local a; } }"), Unknown, "nil")
        self.wrong(state("local l; y = b; x = a;"), Twice, "x")
        self.wrong(state("y = nil; local l;"), BadUse, "y")


class Uses(Faults):
    def use(self, text):
        return top(f"local k; local l; {text} x = a; y = b;")

    def test_faults(self):
        self.right(self.use("use k, l = sub(a, b) every b;"))
        self.wrong(self.use("use k, l = nix(a, b);"), Unknown, "nix")
        self.wrong(self.use("use k, l = top(a, b);"), Unknown, "top")
        self.wrong(self.use("use k, l = sub(a, nil);"), Unknown, "nil")
        self.wrong(self.use("use k, l = sub(a);"), BadNumber, 1)
        self.wrong(self.use("use k, l = sub(a, b, a);"), BadNumber, 3)
        self.wrong(self.use("use k = sub(a, b); l = b;"), BadNumber, 1)
        self.wrong(f"{KINDS} {SUB} {TOP} {{ local k; use x, y, k = sub(a, b); }}", BadNumber, 3)
        self.wrong(self.use("use k, l = sub(a, b) every nil;"), Unknown, "nil")

    def test_in_order(self):
        parts = [("nix", Unknown, "nix"), ("nil", Unknown, "nil"), (3, BadNumber, 3),
                 (1, BadNumber, 1), ("non", Unknown, "non")]
        for wanted in range(len(parts)):
            for faults in itertools.chain.from_iterable(
                    itertools.combinations(range(len(parts)), many) for many in (1, 2, 5)):
                if min(faults) != wanted:
                    continue
                unit = "nix" if 0 in faults else "sub"
                args = ("nil" if 1 in faults else "a") + ", b" + (", b" if 2 in faults else "")
                names = "k" if 3 in faults else "k, l"
                rest = "l = b;" if 3 in faults else ""
                every = "every non" if 4 in faults else ""
                text = self.use(f"use {names} = {unit}({args}) {every}; {rest}")
                self.wrong(text, *parts[wanted][1:])

    def test_units_behind_are_not_seen(self):
        self.wrong("unit u(a: bool) gives (b: bool) { use b = v(a); } "
                   "unit v(a: bool) gives (b: bool) { b = a; }", Unknown, "v")


class Machines(Faults):
    def test_states(self):
        nine = " ".join(f"state s{at} {{ }}" for at in range(9))
        self.wrong(full(f"machine m {{ {nine} state s0 {{ }} }}"), BadNumber, 10)
        self.wrong(full(f"machine m {{ {nine} }}"), BadNumber, 9)
        eight = " ".join(f"state s{at} {{ }}" for at in range(8))
        self.right(full(f"machine m {{ {eight} }}"))
        self.wrong(full("machine m { state s { local a; } state t { } state t { } state s { } }"),
                   Twice, "t")

    def test_turns(self):
        self.right(state("", "unless b go s; unless z back t;", "until x == a go t;"))
        self.wrong(state("", "unless nil go nix;"), Unknown, "nil")
        self.wrong(state("", "unless b go nix;"), Unknown, "nix")
        self.wrong(state("", "", "until b back nix;"), Unknown, "nix")
        self.wrong(state("local l; l = b;", "unless l go s;"), Unknown, "l")
        self.right(state("local l; l = b;", "", "until l go s;"))
        self.wrong(state("local l; l = nil;", "unless b go nix;", "until b go non;"),
                   Unknown, "nix")
        self.wrong(state("local l; l = nil;", "", "until b go non;"), Unknown, "nil")
        self.right(state("", "unless here(e) go s;"))
        self.wrong(state("", "", "until here(e) go s;"), BadUse, "e")
        self.wrong(state("", "", "until e == a go s;"), BadUse, "e")

    def test_words_in_turns(self):
        for text, word in (("last b", "last"), ("b then b", "then"), ("when(b, b is true)", "when"),
                           ("held(b, b, b is true)", "held"), ("merge(b, true: b, false: b)", "merge"),
                           ("weave(b)", "weave"), ("else(f, b)", "else"), ("fresh(f, 1, b)", "fresh"),
                           ("b then last b", "then"), ("last (b then b)", "last"),
                           ("b and (last b then b)", "last"), ("weave(last b) then b", "weave"),
                           ("pick(b, here(f), b then last b)", "then")):
            self.wrong(state("", f"unless {text} go nix;"), BadUse, word)
            if "else" not in text and "fresh" not in text and "here" not in text:
                until = text.replace("b is", "z is").replace("merge(b", "merge(x")
                if "z is" not in until and "merge" not in until:
                    self.wrong(state("", "", f"until {until} go nix;"), BadUse, word)
        self.wrong(state("", "unless last nil go nix;"), Unknown, "nil")

    def test_scope_of_unless(self):
        # The unless of a machine in a state belongs to this state.
        self.wrong(state("machine n { state u { unless here(e) go u; } }"), BadUse, "e")
        self.right(state("local l; l = b; machine n { state u { unless l go u; } }"))


class Exprs(Faults):
    def expr(self, text, told, value):
        self.wrong(full(f"local l; l = {text};"), told, value)

    def in_state(self, text, told, value):
        self.wrong(state(f"local l; l = {text};"), told, value)

    def good(self, text):
        self.right(full(f"local l; local k; k = b; local d: md; d = md.p; l = {text};"))

    def good_in_state(self, text):
        self.right(state(f"local l; local k; k = b; local d: md; d = md.p; l = {text};"))

    def test_names(self):
        self.expr("nix", Unknown, "nix")
        self.good("x + a")
        self.good("e")
        self.in_state("nix", Unknown, "nix")
        self.in_state("e", BadUse, "e")
        self.in_state("m", BadUse, "m")
        self.good_in_state("x + z + a")
        self.expr("m1", Unknown, "m1")
        self.wrong(full("machine n { state s { } } local l; l = n;"), BadUse, "n")

    def test_values(self):
        self.good("md.p == md.q")
        self.expr("nix.p", Unknown, "nix")
        self.expr("lv.p", BadUse, "lv")
        self.expr("md.nix", Unknown, "nix")
        self.expr("a.p", Unknown, "a")

    def test_layers(self):
        for head in ("when(b, ", "held(b, b, "):
            self.good(head + "k is true)")
            self.good(head + "d is md.q)")
            self.good_in_state(head + "k is true)")
            self.good_in_state(head + "x is true)")
            self.expr(head + "nix is nix.p)", Unknown, "nix")
            self.expr(head + "b is md.nix)", Unknown, "nix")
            self.expr(head + "b is lv.p)", BadUse, "lv")
            self.in_state(head + "b is lv.p)", BadUse, "b")
            self.in_state(head + "z is true)", BadUse, "z")
            self.in_state(head + "e is true)", BadUse, "e")
            self.in_state(head + "m is true)", BadUse, "m")
            self.in_state(head + "nix is true)", Unknown, "nix")
        self.wrong(state("machine n { state u { local l; l = when(1, x is true); } }"), BadUse, "x")
        self.right(top("y = b; machine m { state s { machine n { state u { x = 1; } } local l; "
                       "l = when(1, x is true); } }"))

    def test_rates(self):
        for head in ("when(b, ", "held(b, b, "):
            self.good(head + "every 1 from 0)")
            self.good(head + "every 12 from 11)")
            self.expr(head + "every 0 from 0)", BadNumber, 0)
            self.expr(head + "every 13 from 13)", BadNumber, 13)
            self.expr(head + "every 3 from 3)", BadNumber, 3)
            self.expr(head.replace("b, ", "nix, ", 1) + "every 0 from 0)", Unknown, "nix")

    def test_events(self):
        self.good("here(e)")
        self.good("else(e, a)")
        self.good("fresh(e, 12, a)")
        self.good("fresh(e, 0, a)")
        for text in ("here({})", "else({}, nil)", "fresh({}, 13, nil)"):
            self.expr(text.format("nix"), Unknown, "nix")
            self.expr(text.format("a"), BadUse, "a")
            self.expr(text.format("x"), BadUse, "x")
            self.in_state(text.format("e"), BadUse, "e")
            self.in_state(text.format("nix"), Unknown, "nix")
        self.expr("fresh(e, 13, a)", BadNumber, 13)
        self.expr("fresh(e, 13, nil)", Unknown, "nil")
        self.expr("else(e, nil)", Unknown, "nil")

    def test_merges(self):
        self.good("merge(k, true: 1, false: 2)")
        self.good("merge(k, false: 1, true: 2)")
        self.good("merge(d, md.q: 1, md.p: 2)")
        self.good("merge(d, ot.q: 1, ot.p: 2)")
        for arms in ("true: 1", "true: 1, true: 2", "true: 1, false: 2, true: 3", "md.p: 1",
                     "md.p: 1, md.p: 2", "md.p: 1, ot.q: 2", "true: 1, md.q: 2", "md.p: 1, false: 2",
                     "md.p: 1, md.q: 2, md.p: 3"):
            self.expr(f"merge(b, {arms})", BadUse, "b")
        self.expr("merge(nix, true: nil)", Unknown, "nix")
        self.expr("merge(b, nix.p: nil)", Unknown, "nix")
        self.expr("merge(b, md.nix: nil)", Unknown, "nix")
        self.expr("merge(b, true: nil, true: non)", Unknown, "nil")
        self.expr("merge(b, true: 1, lv.p: nil)", BadUse, "lv")
        self.in_state("merge(b, true: nil)", BadUse, "b")
        self.good_in_state("merge(k, true: 1, false: 2)")

    def test_numbers_of_parts(self):
        for word in ("row", "weave"):
            self.good(f"{word}(1, 2, 3, 4, 5, 6)")
            self.expr(f"{word}(1, 2, 3, 4, 5, 6, 7)", BadNumber, 7)
            self.expr(f"{word}(1, 2, 3, 4, 5, 6, nix)", Unknown, "nix")
            self.expr(f"{word}(1, 2, 3, 4, 5, 6, 7) + nix", BadNumber, 7)

    def test_from_left_to_right(self):
        faults = [("nix", Unknown, "nix"), ("md.non", Unknown, "non"), ("here(a)", BadUse, "a"),
                  ("when(1, every 5 from 6)", BadNumber, 6), ("fresh(e, 14, 1)", BadNumber, 14),
                  ("as(a, md)", BadUse, "as"), ("merge(b, true: 1)", BadUse, "b"),
                  ("weave(1, 1, 1, 1, 1, 1, 1)", BadNumber, 7)]
        heads = ["{} + {}", "({} then 1) or {}", "pick(1, {}, {})", "held({}, {}, every 0 from 0)",
                 "not {} * (- {})", "row({}, {})", "merge(y, true: {}, false: {})",
                 "else(e, {} < {})", "as({} / {}, bool)", "last {} == last {}"]
        for head in heads:
            for fault_alone in faults:
                self.expr(head.format("a", fault_alone[0]), *fault_alone[1:])
            for one, two in itertools.permutations(faults, 2):
                self.expr(head.format(one[0], two[0]), *one[1:])


class Contents(Faults):
    def test_claims(self):
        self.wrong(full("assume nix;"), Unknown, "nix")
        self.wrong(full("keep nix;"), Unknown, "nix")
        self.wrong(full("assume nix; keep non;"), Unknown, "nix")
        self.wrong(full("keep non; assume nix;"), Unknown, "non")

    def test_items_in_order(self):
        items = [("assume f1;", "f1"), ("k1 = f2; local k1;", "f2"), ("keep f3;", "f3"),
                 ("local k2; local k3; use k2, k3 = sub(f4, b);", "f4"),
                 ("machine m1 { state s { unless f5 go s; } }", "f5"),
                 ("machine m2 { state s { local k; k = f6; } }", "f6"),
                 ("machine m3 { state s { until f7 go s; } }", "f7")]
        for one, two in itertools.permutations(items, 2):
            self.wrong(full(one[0] + two[0]), Unknown, one[1])

    def test_states_in_order(self):
        parts = [("unless f0 go s;", ""), ("", "local l; l = f1;"), ("", "")]
        self.wrong(full(f"machine m {{ state s {{ {parts[0][0]} local l; l = f1; until f2 go s; }} "
                        "state t { unless f3 go s; } }"), Unknown, "f0")
        self.wrong(full("machine m { state s { local l; l = f1; until f2 go s; } "
                        "state t { unless f3 go s; } }"), Unknown, "f1")
        self.wrong(full("machine m { state s { until f2 go s; } state t { unless f3 go s; } }"),
                   Unknown, "f2")
        self.wrong(full("machine m { state s { } state t { unless f3 go s; local a; } }"),
                   Unknown, "f3")


if __name__ == "__main__":
    unittest.main()
