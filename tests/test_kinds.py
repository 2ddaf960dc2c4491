import itertools
import unittest

from keepsgoing.errors import TooMany
from keepsgoing.kinds import fit, has, how_many, is_kind, values_of, zero

BOOL = ("bool",)
NUM = ("num", -3, 4, 2, "wrap")
HOLD = ("num", -3, 4, 2, "hold")
MODE = ("mode", ("off", "on", "x1"))
RESERVED = (
    "kind bool num per wrap hold mode row of unit event gives local use every from assume keep "
    "machine state unless until go back then or xor and not last true false pick mid min max vote "
    "as at put sum any all when held merge weave here else fresh is").split()


class IsKind(unittest.TestCase):
    def yes(self, thing):
        self.assertIs(is_kind(thing), True, thing)

    def no(self, thing):
        self.assertIs(is_kind(thing), False, thing)

    def test_right_ones(self):
        for kind in (BOOL, NUM, HOLD, MODE, ("num", -1000, 1000, 100, "hold"),
                     ("num", 7, 7, 1, "wrap"), ("mode", ("a",)),
                     ("mode", ("a", "b", "c", "d", "e", "f", "g", "h"))):
            self.yes(kind)
            self.yes(("row", kind, 1))
            self.yes(("row", kind, 6))

    def test_words(self):
        for word in ("", "bol", "Bool", "bool ", "number", "row", "mode"):
            self.no((word,))
        for word in ("", "nam", "bool", "mode", "row", None, 3):
            self.no((word,) + NUM[1:])
        for word in ("", "mods", "num", "bool", None):
            self.no((word, ("a",)))
        for word in ("", "rows", "mode", "num", None):
            self.no((word, BOOL, 3))

    def test_nums(self):
        for at, values in ((1, (-1001, 5, 1000000, -1000000)), (2, (1001, -4, -1000000)),
                           (3, (0, -1, 101, 1000000)), (4, ("", "Wrap", "holds", "bool"))):
            for value in values:
                self.no(NUM[:at] + (value,) + NUM[at + 1:])
        for at, value in itertools.product((1, 2, 3), (None, "1", (), (1,))):
            self.no(NUM[:at] + (value,) + NUM[at + 1:])
        self.no(NUM[:4])
        self.no(NUM + (1,))

    def test_modes(self):
        self.no(("mode", ()))
        self.no(("mode", tuple("abcdefghi")))
        self.no(("mode", ("a", "b", "a")))
        self.no(("mode", "ab"))
        for name in ("", "A", "1a", "a_b", "abcdefghi", "a b", "aB", "a.b", None, 5, ("a",)):
            self.no(("mode", ("a", name)))
        for name in ("a", "z9", "abcdefgh", "a1234567", "kinds", "i"):
            self.yes(("mode", (name,)))
        for name in RESERVED:
            self.no(("mode", (name,)))

    def test_rows(self):
        for size in (0, -1, 7, 1000000, None, "3"):
            self.no(("row", BOOL, size))
        self.no(("row", ("row", BOOL, 2), 3))
        self.no(("row", ("num", 3, 2, 1, "wrap"), 3))
        self.no(("row", (), 3))
        self.no(("row", BOOL))
        self.no(("row", BOOL, 3, 3))

    def test_other_things(self):
        for thing in ((), None, 0, "bool", ("bool", 1), (("bool",),), ((),),
                      ("num", False, True, 1, "hold"), ("row", BOOL, True)):
            self.no(thing)


class Values(unittest.TestCase):
    def test_has(self):
        for kind, low, high in ((BOOL, 0, 1), (NUM, -3, 4), (HOLD, -3, 4), (MODE, 0, 2)):
            for value in range(low, high + 1):
                self.assertIs(has(kind, value), True)
            for value in (low - 1, high + 1, 1000000, None, (), (0,), (low,)):
                self.assertIs(has(kind, value), False, (kind, value))

    def test_rows_have(self):
        kind = ("row", NUM, 2)
        for value in ((-3, 4), (0, 0)):
            self.assertIs(has(kind, value), True)
        for value in ((-4, 0), (0, 5), (0,), (0, 0, 0), (), 0, None, (0, None), ((0,), 0)):
            self.assertIs(has(kind, value), False, value)

    def test_how_many(self):
        self.assertEqual(how_many(BOOL), 2)
        self.assertEqual(how_many(NUM), 8)
        self.assertEqual(how_many(MODE), 3)
        self.assertEqual(how_many(("row", MODE, 4)), 81)
        self.assertEqual(how_many(("row", ("num", -1000, 1000, 1, "hold"), 6)), 2001 ** 6)

    def test_values_ascend(self):
        self.assertEqual(values_of(BOOL), (0, 1))
        self.assertEqual(values_of(NUM), (-3, -2, -1, 0, 1, 2, 3, 4))
        self.assertEqual(values_of(MODE), (0, 1, 2))
        self.assertEqual(values_of(("row", BOOL, 2)), ((0, 0), (0, 1), (1, 0), (1, 1)))
        for kind in (NUM, ("row", MODE, 3), ("row", NUM, 2)):
            values = values_of(kind)
            self.assertEqual(values, tuple(sorted(values)))
            self.assertEqual(len(set(values)), how_many(kind))
            self.assertTrue(all(has(kind, value) for value in values))

    def test_values_up_to_4096(self):
        self.assertEqual(len(values_of(("row", NUM, 4))), 4096)
        self.assertEqual(len(values_of(("row", ("mode", tuple("abcd")), 6))), 4096)
        for kind in (("row", NUM, 5), ("row", ("num", 0, 64, 1, "wrap"), 2),
                     ("row", ("num", -1000, 1000, 1, "wrap"), 6)):
            with self.assertRaises(TooMany) as caught:
                values_of(kind)
            self.assertEqual(caught.exception.part, "values")
        self.assertEqual(len(values_of(("row", ("num", 0, 63, 1, "wrap"), 2))), 4096)

    def test_zero(self):
        self.assertEqual(zero(BOOL), 0)
        self.assertEqual(zero(MODE), 0)
        self.assertEqual(zero(NUM), 0)
        self.assertEqual(zero(("num", 3, 9, 1, "hold")), 3)
        self.assertEqual(zero(("num", -9, -3, 1, "hold")), -3)
        self.assertEqual(zero(("num", 3, 9, 1, "wrap")), 7)
        self.assertEqual(zero(("num", -9, -3, 1, "wrap")), -7)
        self.assertEqual(zero(("row", ("num", 3, 9, 1, "wrap"), 3)), (7, 7, 7))

    def test_fit(self):
        for number in range(-40, 40):
            held = fit(HOLD, number)
            self.assertEqual(held, max(-3, min(4, number)))
            wrapped = fit(NUM, number)
            self.assertTrue(-3 <= wrapped <= 4 and (wrapped - number) % 8 == 0)
        self.assertEqual(fit(("num", 5, 5, 1, "wrap"), -1234567), 5)
        self.assertEqual(fit(("num", -1000, 1000, 1, "wrap"), 1001), -1000)


if __name__ == "__main__":
    unittest.main()
