import unittest

from keepsgoing.errors import BadText
from keepsgoing.reading import read_program
from keepsgoing.tokens import tokens_of
from tests.grammar import first_bad, whole_ones
from tests.texts import FORMS, SMALL

A, B, C = ("name", "a"), ("name", "b"), ("name", "c")
ONE, TWO = ("int", 1), ("int", 2)
HEAD = "unit u ( a : bool ) gives ( b : bool ) { "


def unit(text):
    return read_program(HEAD + text + " }")[2][0]


def item(text):
    items = unit(text)[4]
    assert len(items) == 1
    return items[0]


def expr(text):
    return item(f"x = {text};")[2]


def bad(text):
    try:
        read_program(text)
    except BadText as error:
        return error.at
    return None


class Trees(unittest.TestCase):
    def test_program(self):
        tree = read_program("kind k=bool;kind r=row 3 of k;unit u(a:k,event e:r)gives(b:k,c:r){}")
        named = ("named", "k")
        self.assertEqual(tree, (
            "program", (("k", ("bool",)), ("r", ("row", named, 3))),
            (("unit", "u", (("a", named, 0), ("e", ("named", "r"), 1)),
              (("b", named), ("c", ("named", "r"))), ()),)))

    def test_kinds(self):
        def kind(text):
            return read_program(f"kind k = {text}; {HEAD} }}")[1][0][1]
        self.assertEqual(kind("bool"), ("bool",))
        self.assertEqual(kind("num 0..5 wrap"), ("num", 0, 5, 1, "wrap"))
        self.assertEqual(kind("num - 3 .. -1 per 100 hold"), ("num", -3, -1, 100, "hold"))
        self.assertEqual(kind("num -0..- 0 per 0 hold"), ("num", 0, 0, 0, "hold"))
        self.assertEqual(kind("num 5..-1000 per 1 wrap"), ("num", 5, -1000, 1, "wrap"))
        self.assertEqual(kind("mode(a)"), ("mode", ("a",)))
        self.assertEqual(kind("mode(a,b,a)"), ("mode", ("a", "b", "a")))
        self.assertEqual(kind("row 0 of row 9 of k"), ("row", ("row", ("named", "k"), 9), 0))

    def test_items(self):
        self.assertEqual(item("local x;"), ("local", "x", None))
        self.assertEqual(item("local x: row 2 of bool;"), ("local", "x", ("row", ("bool",), 2)))
        self.assertEqual(item("x = a;"), ("set", "x", A))
        self.assertEqual(item("use x = v(a);"), ("use", ("x",), "v", (A,), None))
        self.assertEqual(item("use x, y = v(a, b) every c;"), ("use", ("x", "y"), "v", (A, B), C))
        self.assertEqual(item("assume a;"), ("assume", A))
        self.assertEqual(item("keep a;"), ("keep", A))

    def test_machines(self):
        self.assertEqual(item("machine m { state s {} }"), ("machine", "m", (("s", (), (), ()),)))
        text = """machine m { state s { unless a go t; unless b back s; local x; x = a;
            machine n { state r { } } until c go s; } state t { until a back t; } }"""
        inner = (("local", "x", None), ("set", "x", A), ("machine", "n", (("r", (), (), ()),)))
        self.assertEqual(item(text), ("machine", "m", (
            ("s", ((A, "go", "t"), (B, "back", "s")), inner, ((C, "go", "s"),)),
            ("t", (), (), ((A, "back", "t"),)))))

    def test_bottoms(self):
        self.assertEqual(expr("1000"), ("int", 1000))
        self.assertEqual(expr("0"), ("int", 0))
        self.assertEqual(expr("true"), ("truth", 1))
        self.assertEqual(expr("false"), ("truth", 0))
        self.assertEqual(expr("(((a)))"), A)
        self.assertEqual(expr("a.b"), ("value", "a", "b"))
        for word in ("pick", "mid", "vote", "put"):
            self.assertEqual(expr(f"{word}(a, b, c)"), (word, A, B, C))
        for word in ("min", "max", "at"):
            self.assertEqual(expr(f"{word}(a, 1)"), (word, A, ONE))
        for word in ("sum", "any", "all"):
            self.assertEqual(expr(f"{word}(a)"), (word, A))
        for word in ("row", "weave"):
            self.assertEqual(expr(f"{word}(a)"), (word, A))
            self.assertEqual(expr(f"{word}(a{', 1' * 9})"), (word, A) + (ONE,) * 9)

    def test_other_bottoms(self):
        self.assertEqual(expr("as(a, k)"), ("as", A, ("named", "k")))
        self.assertEqual(expr("when(a, b is true)"), ("when", A, ("is", "b", ("truth", 1))))
        self.assertEqual(expr("when(a, b is c.d)"), ("when", A, ("is", "b", ("value", "c", "d"))))
        self.assertEqual(expr("when(a, every 0 from 1000)"), ("when", A, ("every", 0, 1000)))
        self.assertEqual(expr("held(a, b, c is false)"),
                         ("held", A, B, ("is", "c", ("truth", 0))))
        self.assertEqual(expr("held(a, b, every 3 from 1)"), ("held", A, B, ("every", 3, 1)))
        self.assertEqual(expr("merge(a, true: b)"), ("merge", "a", ((("truth", 1), B),)))
        self.assertEqual(expr("merge(a, false: b, c.d: 1)"), (
            "merge", "a", ((("truth", 0), B), (("value", "c", "d"), ONE))))
        self.assertEqual(expr("here(a)"), ("here", "a"))
        self.assertEqual(expr("else(a, b)"), ("else", "a", B))
        self.assertEqual(expr("fresh(a, 13, b)"), ("fresh", "a", 13, B))

    def test_levels(self):
        order = ["then", "or", "xor", "and", "==", "+", "*"]
        names = {"==": "eq", "+": "add", "*": "mul"}
        for at, loose in enumerate(order):
            for tight in order[at + 1:]:
                one, two = names.get(loose, loose), names.get(tight, tight)
                self.assertEqual(expr(f"a {loose} b {tight} c"), (one, A, (two, B, C)))
                self.assertEqual(expr(f"a {tight} b {loose} c"), (one, (two, A, B), C))
                self.assertEqual(expr(f"(a {loose} b) {tight} c"), (two, (one, A, B), C))

    def test_comparisons(self):
        names = {"==": "eq", "!=": "ne", "<": "lt", "<=": "le"}
        for sign, name in names.items():
            self.assertEqual(expr(f"a {sign} b + c"), (name, A, ("add", B, C)))
            self.assertEqual(expr(f"a + b {sign} c"), (name, ("add", A, B), C))
            self.assertEqual(expr(f"a {sign} b * c"), (name, A, ("mul", B, C)))
            self.assertEqual(expr(f"a and b {sign} c"), ("and", A, (name, B, C)))
            self.assertEqual(expr(f"a {sign} b and c"), ("and", (name, A, B), C))
            for other in names:
                self.assertEqual(bad(f"{HEAD} x = a {sign} b {other} c; }}"), 19)
                self.assertEqual(bad(f"{HEAD} x = a {sign} b + c {other} a; }}"), 21)
                self.assertIsNone(bad(f"{HEAD} x = a {sign} b or c {other} a; }}"))

    def test_levels_of_all_signs(self):
        for one in ("+", "-"):
            for two in ("*", "/"):
                self.assertEqual(expr(f"a {one} b {two} c")[0], {"+": "add", "-": "sub"}[one])
                self.assertEqual(expr(f"a {two} b {one} c")[0], {"+": "add", "-": "sub"}[one])

    def test_signs(self):
        signs = {"==": "eq", "!=": "ne", "<": "lt", "<=": "le", "+": "add", "-": "sub", "*": "mul",
                 "/": "div"}
        for sign, name in signs.items():
            self.assertEqual(expr(f"a {sign} b"), (name, A, B))
            self.assertEqual(expr(f"a{sign}b"), (name, A, B))

    def test_sides(self):
        for one, two, first, second in (("+", "-", "add", "sub"), ("*", "/", "mul", "div"),
                                        ("or", "or", "or", "or"), ("xor", "xor", "xor", "xor"),
                                        ("and", "and", "and", "and")):
            self.assertEqual(expr(f"a {one} b {two} c"), (second, (first, A, B), C))
            self.assertEqual(expr(f"a {two} b {one} c"), (first, (second, A, B), C))
        self.assertEqual(expr("a then b then c"), ("then", A, ("then", B, C)))
        self.assertEqual(expr("(a then b) then c"), ("then", ("then", A, B), C))
        self.assertEqual(expr("a == b and c < a"), ("and", ("eq", A, B), ("lt", C, A)))
        self.assertEqual(expr("a == (b == c)"), ("eq", A, ("eq", B, C)))

    def test_in_front(self):
        self.assertEqual(expr("not last - a"), ("not", ("last", ("neg", A))))
        self.assertEqual(expr("not a * b"), ("mul", ("not", A), B))
        self.assertEqual(expr("- a.b"), ("neg", ("value", "a", "b")))
        self.assertEqual(expr("- (a + b)"), ("neg", ("add", A, B)))
        self.assertEqual(expr("a - - b"), ("sub", A, ("neg", B)))

    def test_negative_numbers(self):
        self.assertEqual(expr("- 5"), ("int", -5))
        self.assertEqual(expr("-1000"), ("int", -1000))
        self.assertEqual(expr("- 0"), ("int", 0))
        self.assertEqual(expr("- - 5"), ("neg", ("int", -5)))
        self.assertEqual(expr("-(5)"), ("neg", ("int", 5)))
        self.assertEqual(expr("1 - 2"), ("sub", ONE, TWO))
        self.assertEqual(expr("1 - - 2"), ("sub", ONE, ("int", -2)))
        self.assertEqual(expr("last - 2 * - 1"), ("mul", ("last", ("int", -2)), ("int", -1)))


class BadTexts(unittest.TestCase):
    def check(self, tokens):
        # Blanks between all tokens, so that none become one.
        self.assertEqual(bad(" ".join(tokens)), first_bad(tokens), " ".join(tokens))

    def test_right_ones(self):
        for text in (FORMS, SMALL):
            self.assertIsNone(bad(text))
            self.assertIsNone(first_bad(tokens_of(text)))

    def test_torn(self):
        for text in (FORMS, SMALL):
            tokens = tokens_of(text)
            whole = whole_ones(tokens)
            for many in range(len(tokens) + 1):
                wanted = None if many in whole else many
                self.assertEqual(bad(" ".join(tokens[:many])), wanted)
            self.assertEqual(len(whole), 2)

    def test_left_out_and_doubled(self):
        tokens = tokens_of(SMALL)
        for at in range(len(tokens)):
            self.check(tokens[:at] + tokens[at + 1:])
            self.check(tokens[:at] + tokens[at:at + 1] + tokens[at:])
            self.check(tokens[:at] + tokens[at + 1:at + 2] + tokens[at:at + 1] + tokens[at + 2:])

    def test_put_in_and_exchanged(self):
        tokens = tokens_of(SMALL)
        others = ["a", "5", "(", ")", ";", ",", "=", "==", "-", "not", "then", "then1234x", "}", "go",
                  "is", "1001", "B", "..", ".", "unit", "until", "unless", "event", "every", "true"]
        for at in range(len(tokens) + 1):
            for step in range(5):
                other = others[(at * 7 + step * 5) % len(others)]
                self.check(tokens[:at] + (other,) + tokens[at:])
                self.check(tokens[:at] + (other,) + tokens[at + 1:])

    def test_tokens_that_fit_nowhere(self):
        for token in ("A", "aB", "abcdefghi", "007", "1001", "99999", "9" * 6000, "2b", "_", "@",
                      "!", ">", "a" * 5000):
            self.assertEqual(bad("unit " + token), 1)
            self.assertEqual(bad(HEAD + "x = " + token + "; }"), 16)
            self.assertEqual(bad(token), 0)
        self.assertEqual(bad(HEAD + "x = 01; }"), 16)

    def test_written_out(self):
        self.assertEqual(bad(""), 0)
        self.assertEqual(bad("kind k = bool;"), 5)
        self.assertEqual(bad(HEAD), 14)
        self.assertEqual(bad(HEAD + "}}"), 15)
        self.assertEqual(bad(HEAD + "} kind"), 15)
        self.assertEqual(bad(HEAD + "x = a == b == c; }"), 19)
        self.assertEqual(bad(HEAD + "x = a == b + c < d; }"), 21)
        self.assertEqual(bad(HEAD + "x = pick(a, b); }"), 21)
        self.assertEqual(bad(HEAD + "x = min(a, b, c); }"), 21)
        self.assertEqual(bad(HEAD + "x = 5.a; }"), 17)
        self.assertEqual(bad(HEAD + "x = -5.a; }"), 18)
        self.assertEqual(bad(HEAD + "x = when(a, every a); }"), 21)
        self.assertEqual(bad(HEAD + "x = fresh(a, b, c); }"), 20)
        self.assertEqual(bad(HEAD + "machine m { } }"), 17)
        self.assertEqual(bad(HEAD + "machine m { state s { assume a; } } }"), 20)
        self.assertEqual(bad(HEAD + "machine m { state s { x = a; unless a go s; } } }"), 24)
        self.assertEqual(bad(HEAD + "machine m { state s { until a go s; x = a; } } }"), 25)

    def test_without_blanks(self):
        tokens = tokens_of(SMALL)
        text = ""
        for token in tokens:
            both = text and text[-1].isalnum() and token[0].isalnum()
            text += (" " if both else "") + token
        self.assertEqual(tokens_of(text), tokens)
        self.assertEqual(read_program(text), read_program(SMALL))
        self.assertEqual(bad(text.replace("local q", "localq")), first_bad(
            tokens_of(text.replace("local q", "localq"))))
        self.assertEqual(bad(HEAD + "x=a notb; }"), 17)


class Bounds(unittest.TestCase):
    def test_brackets(self):
        deep = "a"
        wanted = A
        for _ in range(28):
            deep = f"min({deep}, b)"
            wanted = ("min", wanted, B)
        self.assertEqual(expr(deep), wanted)
        self.assertEqual(expr("(" * 29 + "a" + ")" * 29), A)
        self.assertEqual(bad(HEAD + "x = " + "(" * 29), 16 + 29)
        mixed = "a == b + c * not min(a, " * 29
        self.assertEqual(bad(HEAD + "x = " + mixed), 16 + 29 * 11)

    def test_in_front(self):
        wanted = A
        for _ in range(10):
            wanted = ("not", ("last", ("neg", wanted)))
        self.assertEqual(expr("not last - " * 10 + "a"), wanted)
        self.assertEqual(expr(("(" + "not " * 30) * 3 + "a" + ")" * 3)[0], "not")

    def test_thens(self):
        wanted = C
        for _ in range(30):
            wanted = ("then", A, wanted)
        self.assertEqual(expr("a then " * 30 + "c"), wanted)

    def test_states_within_states(self):
        text = ""
        for at in range(14):
            text += f"machine m{at} {{ state s {{ "
        self.assertEqual(item(text + "} }" * 14)[0], "machine")

    def test_many_tokens(self):
        one = "x = a + b ; "
        tree = unit(one * 3300)
        self.assertEqual(len(tree[4]), 3300)
        self.assertEqual(tree[4][-1], ("set", "x", ("add", A, B)))
        self.assertEqual(bad(HEAD + one * 3300), 14 + 6 * 3300)
        self.assertEqual(bad(HEAD + "x = " + "a + " * 9900), 16 + 2 * 9900)
        self.assertEqual(bad("kind k = " + "row 2 of " * 6000), 3 + 3 * 6000)


if __name__ == "__main__":
    unittest.main()
