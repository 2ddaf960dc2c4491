import unittest

from keepsgoing.checking import checked
from keepsgoing.errors import ClockClash, KindClash, KindOpen, Ring, TooMany, Unset, Unsettled
from keepsgoing.flatten import flatten
from keepsgoing.reading import read_program
from tests.randomflats import random_flat
from tests.randomprograms import random_program

BOOL = ("bool",)
LV = ("num", 0, 9, 1, "hold")
NO, YES = ("truth", 0), ("truth", 1)
INPUTS = (("a", BOOL, 0), ("n", LV, 0), ("e", BOOL, 1), ("l", LV, "s"))
A, N, E = ("name", "a"), ("name", "n"), ("name", "e")
ON = ("is", "a", YES)
SLOW = ("s", None, None, 0, ("when", N, ON))

# Equations with one fault each, in the order in which faults are told.
CLASH = ("k", None, None, 0, ("and", A, N))
OPEN = ("o", None, None, 0, ("eq", ("int", 3), ("int", 3)))
CLOCKS = ("c", None, None, 0, ("and", A, E))
RING = ("r", None, None, 0, ("eq", ("name", "r"), A))
UNSETTLED = ("u", None, None, 0, ("pick", A, ("name", "u"), NO))
UNSET = ("x", None, None, 0, ("last", A, ()))


def many():
    """A knot with nine entering parts."""
    expr = ("name", "m")
    for each in range(9):
        expr = ("and", ("lt", N, ("int", each)), expr)
    return ("m", None, None, 0, ("and", NO, expr))


def flat(*equations, shown=("s",)):
    return ("flat", INPUTS, (SLOW,) + equations, shown, (), ())


class Faults(unittest.TestCase):
    def fault(self, made, error, **told):
        with self.assertRaises(error) as caught:
            checked(made)
        self.assertIs(type(caught.exception), error)
        self.assertEqual(vars(caught.exception), told)

    def test_one_fault(self):
        self.fault(flat(CLASH), KindClash, at=1)
        self.fault(flat(OPEN), KindOpen, name="o")
        self.fault(flat(CLOCKS), ClockClash, at=1)
        self.fault(flat(RING), Ring, names=("r",))
        self.fault(flat(many()), TooMany, part="ring")
        self.fault(flat(UNSETTLED), Unsettled, names=("u",), truths=(1,))
        self.fault(flat(UNSET, shown=("x",)), Unset, name="x")

    def test_two_faults(self):
        faults = [(CLASH, KindClash), (OPEN, KindOpen), (CLOCKS, ClockClash), (RING, Ring),
                  (many(), TooMany), (UNSETTLED, Unsettled), (UNSET, Unset)]
        stages = [0, 0, 1, 2, 2, 2, 3]
        for one in range(len(faults)):
            for two in range(one + 1, len(faults)):
                if stages[one] == stages[two]:
                    continue
                for pair in ((faults[one][0], faults[two][0]), (faults[two][0], faults[one][0])):
                    with self.assertRaises(faults[one][1]):
                        checked(flat(*pair, shown=("s",) + (("x",) if two == 6 else ())))

    def test_order_within_a_stage(self):
        # A clash is told ahead of an open kind, wherever they stand; knots go in order.
        self.fault(flat(OPEN, CLASH), KindClash, at=2)
        self.fault(flat(UNSETTLED, RING), Unsettled, names=("u",), truths=(1,))
        self.fault(flat(RING, UNSETTLED), Ring, names=("r",))
        self.fault(flat(many(), RING), TooMany, part="ring")

    def test_unset_names_that_are_not_looked_at(self):
        self.assertEqual(checked(flat(UNSET))[0], (LV, BOOL))


class Told(unittest.TestCase):
    def test_kinds_and_clocks(self):
        kinds, clocks = checked(flat(
            ("x", None, None, 0, ("lt", ("name", "l"), ("name", "s"))),
            ("y", None, "s", 1, ("int", 3)),
            ("z", LV, None, 0, ("held", N, ("add", ("name", "y"), ("name", "l")), ON, ())),
            ("w", None, None, 0, ("when", ("name", "x"), ("every", 2, 1, "s"))),
            ("v", None, None, 0, ("add", ("int", 2), ("name", "y"))), shown=("x",)))
        self.assertEqual(kinds, (LV, BOOL, LV, LV, BOOL, LV))
        slow = (ON,)
        self.assertEqual(clocks, (slow, slow, slow, (), slow + (("every", 2, 1, "s"),), slow))

    def test_rings_that_are_let(self):
        kinds, clocks = checked(flat(
            ("x", None, None, 0, ("pick", A, ("name", "y"), NO)),
            ("y", None, None, 0, ("pick", A, YES, ("not", ("name", "x")))), shown=("x", "y")))
        self.assertEqual((kinds, clocks), ((LV, BOOL, BOOL), ((ON,), (), ())))

    def test_calls_for_others_ahead(self):
        flats = [flatten(read_program(random_program(seed)[0])) for seed in range(12)]
        flats += [random_flat(seed, 3, True) for seed in range(12)]

        def told(made):
            try:
                return checked(made)
            except Exception as error:
                return type(error), tuple(sorted(vars(error).items()))
        first = [told(made) for made in flats]
        again = [told(made) for made in reversed(flats)]
        self.assertEqual(first, list(reversed(again)))
        self.assertGreater(sum(type(each[0]) is tuple for each in first), 8)


if __name__ == "__main__":
    unittest.main()
