import unittest

from keepsgoing.kinds import has, values_of
from keepsgoing.ops import result, result_kind

BOOL = ("bool",)
WRAP = ("num", -3, 4, 2, "wrap")
HOLD = ("num", -3, 4, 2, "hold")
MODE = ("mode", ("a", "b", "c"))
SMALL = ("num", 1, 3, 1, "hold")
BITS = ("row", BOOL, 3)
NUMS = ("row", HOLD, 3)
WRAPS = ("row", WRAP, 2)
ALL = (BOOL, WRAP, HOLD, MODE, SMALL, BITS, NUMS, WRAPS, ("row", MODE, 6), ("row", BOOL, 1))
PLAIN = (BOOL, WRAP, HOLD, MODE, SMALL)
NUM = (WRAP, HOLD, SMALL)
OPS = ("not and or xor eq ne lt le neg add sub mul div min max mid as pick vote row at put sum any "
       "all").split()


class Kinds(unittest.TestCase):
    def expected(self, op, kinds):
        """The kind by the words of the table, without told kinds."""
        same = len(set(kinds)) == 1
        counts = {"not": 1, "neg": 1, "sum": 1, "any": 1, "all": 1, "as": 1, "mid": 3, "pick": 3,
                  "vote": 3, "put": 3}
        if op == "row":
            good = 1 <= len(kinds) <= 6 and same and kinds[0] in PLAIN
            return ("row", kinds[0], len(kinds)) if good else None
        if len(kinds) != counts.get(op, 2):
            return None
        a = kinds[0]
        if op in ("not", "and", "or", "xor"):
            return BOOL if same and a == BOOL else None
        if op in ("eq", "ne"):
            return BOOL if same else None
        if op in ("lt", "le"):
            return BOOL if same and a in NUM else None
        if op in ("neg", "add", "sub", "mul", "div", "min", "max", "mid"):
            return a if same and a in NUM else None
        if op == "pick":
            return kinds[1] if a == BOOL and kinds[1] == kinds[2] else None
        if op == "vote":
            return a if same else None
        row = a[0] == "row"
        if op == "at":
            return a[1] if row and kinds[1] in NUM else None
        if op == "put":
            return a if row and kinds[1] in NUM and kinds[2] == a[1] else None
        if op == "sum":
            return a[1] if row and a[1] in NUM else None
        if op in ("any", "all"):
            return BOOL if row and a[1] == BOOL else None
        return None

    def test_all_operands(self):
        for op in OPS:
            if op == "as":
                continue
            for a in ALL:
                self.assertEqual(result_kind(op, (a,)), self.expected(op, (a,)), (op, a))
                for b in ALL:
                    kinds = (a, b)
                    self.assertEqual(result_kind(op, kinds), self.expected(op, kinds), (op, kinds))
                    for c in ALL:
                        kinds = (a, b, c)
                        wanted = self.expected(op, kinds)
                        self.assertEqual(result_kind(op, kinds), wanted, (op, kinds))

    def test_one_too_few_and_too_many(self):
        right = {
            "not": (BOOL,), "and": (BOOL,) * 2, "or": (BOOL,) * 2, "xor": (BOOL,) * 2,
            "eq": (MODE,) * 2, "ne": (BITS,) * 2, "lt": (HOLD,) * 2, "le": (HOLD,) * 2,
            "neg": (HOLD,), "add": (HOLD,) * 2, "sub": (HOLD,) * 2, "mul": (HOLD,) * 2,
            "div": (HOLD,) * 2, "min": (HOLD,) * 2, "max": (HOLD,) * 2, "mid": (HOLD,) * 3,
            "as": (HOLD,), "pick": (BOOL,) * 3, "vote": (BITS,) * 3, "at": (BITS, HOLD),
            "put": (BITS, HOLD, BOOL), "sum": (NUMS,), "any": (BITS,), "all": (BITS,),
        }
        for op, kinds in right.items():
            self.assertIsNotNone(result_kind(op, kinds, WRAP), op)
            self.assertIsNone(result_kind(op, kinds[:-1], WRAP), op)
            self.assertIsNone(result_kind(op, kinds + kinds[-1:], WRAP), op)
            self.assertIsNone(result_kind(op, (), WRAP), op)
        for many in range(0, 9):
            wanted = ("row", MODE, many) if 1 <= many <= 6 else None
            self.assertEqual(result_kind("row", (MODE,) * many), wanted)

    def test_as(self):
        for kind in NUM:
            for told in NUM:
                self.assertEqual(result_kind("as", (kind,), told), told)
            self.assertIsNone(result_kind("as", (kind,)))
            self.assertIsNone(result_kind("as", (kind,), BOOL))
            self.assertIsNone(result_kind("as", (kind,), NUMS))
        for kind in (BOOL, MODE, BITS, NUMS):
            self.assertIsNone(result_kind("as", (kind,), HOLD))

    def test_no_operation(self):
        for op in ("", "nand", "when", "last"):
            self.assertIsNone(result_kind(op, (BOOL,)))


class Results(unittest.TestCase):
    def fitted(self, kind, n):
        low, high = kind[1:3]
        if kind[4] == "hold":
            return max(low, min(high, n))
        while n < low:
            n += high - low + 1
        while n > high:
            n -= high - low + 1
        return n

    def test_bools(self):
        self.assertEqual([result("not", (BOOL,), (a,)) for a in (0, 1)], [1, 0])
        pairs = [(0, 0), (0, 1), (1, 0), (1, 1)]
        kinds = (BOOL, BOOL)
        self.assertEqual([result("and", kinds, p) for p in pairs], [0, 0, 0, 1])
        self.assertEqual([result("or", kinds, p) for p in pairs], [0, 1, 1, 1])
        self.assertEqual([result("xor", kinds, p) for p in pairs], [0, 1, 1, 0])
        self.assertEqual([result("eq", kinds, p) for p in pairs], [1, 0, 0, 1])
        self.assertEqual([result("ne", kinds, p) for p in pairs], [0, 1, 1, 0])

    def test_nums_at_all_values(self):
        for kind in (WRAP, HOLD, SMALL, ("num", -7, -2, 3, "wrap"), ("num", 0, 0, 1, "wrap")):
            low, high, per = kind[1:4]
            for a in values_of(kind):
                self.assertEqual(result("neg", (kind,), (a,)), self.fitted(kind, -a))
                for b in values_of(kind):
                    self.check_pair(kind, low, high, per, a, b)

    def check_pair(self, kind, low, high, per, a, b):
        def got(op):
            return result(op, (kind, kind), (a, b))
        self.assertEqual(got("add"), self.fitted(kind, a + b))
        self.assertEqual(got("sub"), self.fitted(kind, a - b))
        self.assertEqual(got("mul"), self.fitted(kind, (a * b - (a * b) % per) // per))
        if b == 0:
            wanted = high if a > 0 else low if a < 0 else self.fitted(kind, 0)
        else:
            wanted = self.fitted(kind, (a * per) // b)
        self.assertEqual(got("div"), wanted, (kind, a, b))
        self.assertEqual(got("lt"), int(a < b))
        self.assertEqual(got("le"), int(a <= b))
        self.assertEqual(got("min"), min(a, b))
        self.assertEqual(got("max"), max(a, b))

    def test_written_out(self):
        big = ("num", -1000, 1000, 100, "hold")
        self.assertEqual(result("mul", (big, big), (-1, 1)), -1)
        self.assertEqual(result("mul", (big, big), (150, 150)), 225)
        self.assertEqual(result("mul", (big, big), (-1000, 1000)), -1000)
        self.assertEqual(result("div", (big, big), (-1, 1000)), -1)
        self.assertEqual(result("div", (big, big), (100, 300)), 33)
        self.assertEqual(result("div", (big, big), (1000, 0)), 1000)
        self.assertEqual(result("div", (big, big), (-1, 0)), -1000)
        self.assertEqual(result("div", (big, big), (0, 0)), 0)
        wide = ("num", -1000, 1000, 1, "wrap")
        self.assertEqual(result("add", (wide, wide), (1000, 1)), -1000)
        self.assertEqual(result("sub", (wide, wide), (-1000, 1)), 1000)
        self.assertEqual(result("neg", (("num", -4, 3, 1, "wrap"),), (-4,)), -4)

    def test_mid(self):
        kinds = (HOLD,) * 3
        for values in ((1, 2, 3), (3, 1, 2), (2, 3, 1), (2, 2, 1), (-3, 4, 2)):
            self.assertEqual(result("mid", kinds, values), sorted(values)[1])

    def test_as(self):
        fine = ("num", -1000, 1000, 100, "hold")
        self.assertEqual(result("as", (fine,), (250,), ("num", 0, 9, 1, "hold")), 2)
        self.assertEqual(result("as", (fine,), (-250,), ("num", -9, 9, 1, "hold")), -3)
        self.assertEqual(result("as", (fine,), (-250,), ("num", 0, 9, 1, "wrap")), 7)
        self.assertEqual(result("as", (HOLD,), (3,), fine), 150)
        self.assertEqual(result("as", (HOLD,), (4,), ("num", -5, 5, 3, "wrap")), -5)

    def test_pick_and_vote(self):
        self.assertEqual(result("pick", (BOOL, MODE, MODE), (1, 2, 0)), 2)
        self.assertEqual(result("pick", (BOOL, MODE, MODE), (0, 2, 0)), 0)
        for a in range(3):
            for b in range(3):
                for c in range(3):
                    wanted = a if a == b else c
                    self.assertEqual(result("vote", (MODE,) * 3, (a, b, c)), wanted)
        rows = ((1, 0, 1), (1, 0, 1), (0, 0, 0))
        self.assertEqual(result("vote", (BITS,) * 3, rows), (1, 0, 1))

    def test_rows(self):
        self.assertEqual(result("row", (BOOL,), (1,)), (1,))
        self.assertEqual(result("row", (MODE,) * 6, (0, 1, 2, 0, 1, 2)), (0, 1, 2, 0, 1, 2))
        row = (4, -3, 0)
        places = {-3: 0, -2: 0, -1: 0, 0: 0, 1: 0, 2: 1, 3: 1, 4: 2}
        for b, i in places.items():
            self.assertEqual(result("at", (NUMS, HOLD), (row, b)), row[i], b)
        self.assertEqual(result("at", (WRAPS, HOLD), ((1, 2), 4)), 2)
        for b, i in places.items():
            wanted = list(row)
            if b >= 0:
                wanted[i] = 1
            self.assertEqual(result("put", (NUMS, HOLD, HOLD), (row, b, 1)), tuple(wanted), b)
        self.assertEqual(result("put", (WRAPS, HOLD, WRAP), ((1, 2), 4, 3)), (1, 2))
        self.assertEqual(result("put", (("row", BOOL, 1), SMALL, BOOL), ((0,), 1, 1)), (0,))

    def test_sums_are_fitted_each_time(self):
        self.assertEqual(result("sum", (NUMS,), ((4, 4, -3),)), 1)
        self.assertEqual(result("sum", (("row", WRAP, 3),), ((4, 4, -3),)), -3)
        self.assertEqual(result("sum", (("row", SMALL, 1),), ((2,),)), 2)

    def test_any_and_all(self):
        for row, some, every in (((0, 0, 0), 0, 0), ((0, 1, 0), 1, 0), ((1, 1, 1), 1, 1)):
            self.assertEqual(result("any", (BITS,), (row,)), some)
            self.assertEqual(result("all", (BITS,), (row,)), every)

    def test_equal_rows(self):
        self.assertEqual(result("eq", (BITS, BITS), ((1, 0, 1), (1, 0, 1))), 1)
        self.assertEqual(result("ne", (BITS, BITS), ((1, 0, 1), (1, 1, 1))), 1)

    def test_results_are_of_their_kinds(self):
        for op in OPS:
            for a in (BOOL, WRAP, HOLD, MODE, SMALL):
                for b in (BOOL, WRAP, SMALL, a):
                    kind = result_kind(op, (a, b), WRAP)
                    if kind is None:
                        continue
                    for x in values_of(a):
                        for y in values_of(b):
                            self.assertTrue(has(kind, result(op, (a, b), (x, y), WRAP)))


if __name__ == "__main__":
    unittest.main()
