import random
import unittest

from keepsgoing.errors import BadText
from keepsgoing.reading import read_program
from keepsgoing.tokens import tokens_of
from keepsgoing.writing import write_expr, write_kind, write_program
from tests.texts import FORMS, SMALL

A, B, C = ("name", "a"), ("name", "b"), ("name", "c")
CALLS = ("pick mid vote put min max at sum any all row weave as when held merge here else "
         "fresh").split()
TWO = "then or xor and eq ne lt le add sub mul div".split()


def program(expr):
    return ("program", (), (("unit", "u", (("a", ("bool",), 0),), (("b", ("bool",)),),
                             (("set", "x", expr),)),))


def read_expr(text):
    return read_program("unit u(a: bool) gives (b: bool) { x = " + text + "; }")[2][0][4][0][2]


def random_expr(rng, depth):
    if depth == 0 or rng.random() < 0.1:
        return rng.choice([A, B, ("int", 0), ("int", 7), ("int", -7), ("truth", 1), ("truth", 0),
                           ("value", "a", "b"), ("here", "a")])

    def inner():
        return random_expr(rng, depth - 1)
    layer = rng.choice([("every", 3, 1), ("is", "x", ("truth", 0)), ("is", "x", ("value", "a", "b"))])
    return rng.choice([
        lambda: (rng.choice(TWO), inner(), inner()), lambda: (rng.choice(TWO), inner(), inner()),
        lambda: (rng.choice(TWO), inner(), inner()), lambda: (rng.choice(TWO), inner(), inner()),
        lambda: (rng.choice(["not", "last", "neg"]), inner()),
        lambda: (rng.choice(["not", "last", "neg"]), inner()),
        lambda: ("pick", inner(), inner(), inner()), lambda: ("row", inner()),
        lambda: ("weave", inner(), inner()), lambda: ("as", inner(), ("named", "k")),
        lambda: ("as", inner(), ("row", ("num", -3, 4, 2, "wrap"), 3)),
        lambda: ("when", inner(), layer), lambda: ("held", inner(), inner(), layer),
        lambda: ("merge", "x", ((("truth", 1), inner()), (("value", "a", "b"), inner()))),
        lambda: ("else", "x", inner()), lambda: ("fresh", "x", 3, inner())])()


class Exprs(unittest.TestCase):
    def test_written_out(self):
        for tree, text in (
                (("int", 5), "5"), (("int", -5), "- 5"), (("int", 0), "0"),
                (("truth", 1), "true"), (("truth", 0), "false"), (A, "a"),
                (("value", "a", "b"), "a . b"), (("neg", A), "- a"),
                (("neg", ("int", 5)), "- ( 5 )"), (("neg", ("int", 0)), "- ( 0 )"),
                (("neg", ("int", -5)), "- - 5"), (("not", ("int", -5)), "not - 5"),
                (("not", ("int", 5)), "not 5"), (("neg", ("neg", ("int", 5))), "- - ( 5 )"),
                (("neg", ("add", A, B)), "- ( a + b )"), (("add", ("neg", A), B), "- a + b"),
                (("sub", A, ("int", -5)), "a - - 5"), (("last", ("not", A)), "last not a"),
                (("last", ("then", A, B)), "last ( a then b )"),
                (("then", A, ("then", B, C)), "a then b then c"),
                (("then", ("then", A, B), C), "( a then b ) then c"),
                (("eq", ("eq", A, B), C), "( a == b ) == c"),
                (("eq", A, ("lt", B, C)), "a == ( b < c )"),
                (("and", ("eq", A, B), ("le", B, C)), "a == b and b <= c"),
                (("sub", A, ("sub", B, C)), "a - ( b - c )"),
                (("sub", ("sub", A, B), C), "a - b - c"),
                (("div", ("mul", A, B), C), "a * b / c"),
                (("mul", A, ("div", B, C)), "a * ( b / c )"),
                (("or", A, ("or", B, C)), "a or ( b or c )"),
                (("and", ("or", A, B), C), "( a or b ) and c"),
                (("xor", ("and", A, B), C), "a and b xor c"),
                (("ne", ("add", A, B), C), "a + b != c"),
                (("pick", ("then", A, B), ("int", -1), C), "pick ( a then b , - 1 , c )"),
                (("row", A), "row ( a )"), (("weave", A, B), "weave ( a , b )"),
                (("as", A, ("named", "k")), "as ( a , k )"),
                (("when", A, ("every", 12, 0)), "when ( a , every 12 from 0 )"),
                (("when", A, ("is", "b", ("truth", 1))), "when ( a , b is true )"),
                (("held", A, B, ("is", "c", ("value", "k", "v"))), "held ( a , b , c is k . v )"),
                (("merge", "a", ((("truth", 0), B), (("value", "k", "v"), C))),
                 "merge ( a , false : b , k . v : c )"),
                (("here", "a"), "here ( a )"), (("else", "a", ("then", B, C)), "else ( a , b then c )"),
                (("fresh", "a", 0, B), "fresh ( a , 0 , b )")):
            self.assertEqual(write_expr(tree), text)
            self.assertEqual(read_expr(text), tree)

    def test_random_ones(self):
        rng = random.Random(5)
        for _ in range(400):
            tree = random_expr(rng, 5)
            text = write_expr(tree)
            self.assertEqual(read_expr(text), tree)
            self.assertEqual(" ".join(tokens_of(text)), text)

    def test_no_needless_parentheses(self):
        rng = random.Random(6)
        for _ in range(150):
            tree = random_expr(rng, 4)
            tokens = write_expr(tree).split(" ")
            for first, last in self.pairs(tokens):
                left = tokens[:first] + tokens[first + 1:last] + tokens[last + 1:]
                try:
                    self.assertNotEqual(read_expr(" ".join(left)), tree)
                except BadText:
                    pass

    def pairs(self, tokens):
        waiting, found = [], []
        for at, token in enumerate(tokens):
            if token == "(":
                waiting.append(at)
            elif token == ")":
                first = waiting.pop()
                if first == 0 or tokens[first - 1] not in CALLS:
                    found.append((first, at))
        return found


class Kinds(unittest.TestCase):
    def test_kinds(self):
        for kind, text in (
                (("bool",), "bool"), (("named", "k"), "k"),
                (("num", -3, 4, 1, "wrap"), "num - 3 .. 4 wrap"),
                (("num", 0, -1000, 0, "hold"), "num 0 .. - 1000 per 0 hold"),
                (("num", 1, 1, 2, "hold"), "num 1 .. 1 per 2 hold"),
                (("mode", ("a",)), "mode ( a )"), (("mode", ("a", "b", "a")), "mode ( a , b , a )"),
                (("row", ("row", ("bool",), 0), 9), "row 9 of row 0 of bool")):
            self.assertEqual(write_kind(kind), text)
            self.assertEqual(read_program(f"kind k = {text}; unit u(a: k) gives (b: k) {{ }}")[1],
                             (("k", kind),))


class Programs(unittest.TestCase):
    def test_written_out(self):
        text = ("kind k = mode ( a , b ) ;\n"
                "unit u ( event x : k , y : bool ) gives ( z : bool ) {\n"
                "local q ;\nlocal r : k ;\nassume x ;\nkeep y ;\n"
                "use z , q = v ( 1 , y ) every true ;\n"
                "machine m {\nstate s {\nunless a go s ;\nz = y ;\nuntil b back s ;\n}\n}\n"
                "use z = v ( 1 ) ;\n}\n"
                "unit w ( a : bool ) gives ( b : bool , c : k ) {\n}\n")
        self.assertEqual(write_program(read_program(text)), text)

    def test_reading_gives_the_tree_back(self):
        for text in (FORMS, SMALL):
            tree = read_program(text)
            written = write_program(tree)
            self.assertEqual(read_program(written), tree)
            self.assertEqual(write_program(read_program(written)), written)

    def test_gaps(self):
        for text in (FORMS, SMALL):
            written = write_program(read_program(text))
            gaps = ""
            for token in tokens_of(written):
                gaps += token + ("\n" if token in ("{", "}", ";") else " ")
            self.assertEqual(written, gaps)

    def test_bounds(self):
        deep = A
        for _ in range(90):
            deep = ("not", deep)
        self.assertEqual(write_expr(deep), "not " * 90 + "a")
        for word in ("min", "sub", "then"):
            deep = A
            for _ in range(28):
                deep = (word, B, deep)
            self.assertEqual(read_program(write_program(program(deep))), program(deep))
        brackets = A
        for _ in range(29):
            brackets = ("min", ("not", ("last", ("neg", brackets))), B)
        tree = program(("min", A, B))
        self.assertEqual(read_expr(write_expr(brackets)), brackets)
        self.assertEqual(read_program(write_program(tree)), tree)
        sums = A
        for _ in range(93):
            sums = ("add", sums, B)
        self.assertEqual(read_program(write_program(program(sums))), program(sums))
        rows = ("bool",)
        for at in range(90):
            rows = ("row", rows, at)
        deep = ("program", (("k", rows),), program(A)[2])
        self.assertEqual(read_program(write_program(deep)), deep)
        many = (("set", "x", ("add", A, B)),) * 3300
        tree = ("program", (), (("unit", "u", (("a", ("bool",), 0),), (("b", ("bool",)),), many),))
        self.assertEqual(read_program(write_program(tree)), tree)

    def test_equal_trees_have_equal_texts(self):
        tree = read_program(SMALL)
        self.assertEqual(write_program(tree), write_program(read_program(SMALL)))


if __name__ == "__main__":
    unittest.main()
