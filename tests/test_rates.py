import itertools
import unittest

from keepsgoing.rates import one_beat, rate_of


def every(n, k, home=None):
    return ("every", n, k, home)


ON = ("is", "a", ("truth", 1))
OFF = ("is", "a", ("truth", 0))
MODE = ("is", "m", ("mode", ("p", "q"), 1))


class Rates(unittest.TestCase):
    def test_rates(self):
        self.assertEqual(rate_of(()), (1, 0))
        self.assertEqual(rate_of((every(3, 2),)), (3, 2))
        self.assertEqual(rate_of((every(3, 2, "x"), every(2, 1, "y"))), (6, 5))
        self.assertEqual(rate_of((every(2, 1), every(3, 2))), (6, 5))
        self.assertEqual(rate_of((every(4, 1), every(3, 2), every(12, 11))), (144, 141))
        self.assertEqual(rate_of((every(1, 0),)), (1, 0))
        self.assertEqual(rate_of((every(12, 0),) * 5), (12 ** 5, 0))

    def test_layers_by_values(self):
        for clock in ((ON,), (every(2, 0), ON), (ON, every(2, 0)), (MODE,)):
            self.assertIsNone(rate_of(clock))

    def ticks(self, clock, many):
        """The ticks at which a clock without other layers is there, by the words of [18]."""
        found = list(range(many))
        for _, n, k, _ in clock:
            found = [tick for count, tick in enumerate(found) if count >= k and (count - k) % n == 0]
        return found

    def test_ticks(self):
        layers = [every(n, k) for n in (1, 2, 3) for k in range(n)]
        for size in (1, 2, 3):
            for clock in itertools.product(layers, repeat=size):
                n, k = rate_of(clock)
                self.assertEqual(self.ticks(clock, 60), list(range(k, 60, n)))


class OneBeat(unittest.TestCase):
    def same(self, clock, other, wanted=True):
        self.assertIs(one_beat(clock, other), wanted)
        self.assertIs(one_beat(other, clock), wanted)

    def test_numbers_alone(self):
        layers = [every(n, k) for n in (1, 2, 3, 4, 6) for k in range(n)]
        clocks = [()] + [(a,) for a in layers] + list(itertools.product(layers, repeat=2))
        ticks = {}
        for clock in clocks:
            found = tuple(Rates().ticks(clock, 80))
            for other in ticks.get(found, []):
                self.same(clock, other)
            ticks.setdefault(found, []).append(clock)
        firsts = [group[0] for group in ticks.values()]
        for one, two in itertools.combinations(firsts, 2):
            self.same(one, two, False)

    def test_homes_are_left_out(self):
        self.same((every(2, 1, "x"),), (every(2, 1),))
        self.same((ON, every(2, 1, "x")), (ON, every(2, 1, "y")))

    def test_with_values(self):
        self.same((ON,), (ON,))
        self.same((ON,), (OFF,), False)
        self.same((ON,), (MODE,), False)
        self.same((ON,), (), False)
        self.same((every(2, 0), every(3, 1), ON), (every(6, 2), ON))
        self.same((every(1, 0), ON, every(1, 0)), (ON,))
        self.same((ON, every(2, 0)), (every(2, 0), ON), False)
        self.same((ON, every(2, 0), MODE, every(2, 1)), (ON, every(2, 0), MODE, every(2, 1)))
        self.same((ON, every(2, 0), MODE), (ON, MODE, every(2, 0)), False)
        self.same((every(2, 0), ON, every(3, 0)), (every(6, 0), ON), False)
        self.same((ON, every(2, 0), every(2, 1), OFF), (ON, every(4, 2), OFF))
        self.same((ON, ON), (ON,), False)


if __name__ == "__main__":
    unittest.main()
