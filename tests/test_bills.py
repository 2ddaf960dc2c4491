"""Bills of codes: [38]."""

import random
import unittest

from keepsgoing.bills import bill, dear_way
from keepsgoing.imageof import image_of
from keepsgoing.machine import Machine
from keepsgoing.orders import order_of
from keepsgoing.seats import seats_of
from tests.randomflows import random_flow, random_rows
from tests.slowmachine import image_rows, judged, random_image

NUM = ("num", 0, 5, 1, "wrap")
PUT = ("put", 0, 7)
# One step of each word that goes on with the next step.
GOING_ON = (PUT, ("copy", 0, 1), ("do", "add", NUM, 0, (0, 1)), ("do", "not", ("bool",), 0, (1,)),
            ("as", NUM, 2, 0, 1), ("load", 0, 1, 2, 0, 1), ("store", 1, 2, 0, 1, 0))


def unless(many, node=None):
    return ("unless", 0, 1, many, node)


def ways_from(code, at):
    """All ways from a step to the end."""
    if at == len(code):
        return [()]
    step = code[at]
    nexts = {at + 1}
    if step[0] == "unless":
        nexts.add(at + 1 + step[3])
    if step[0] == "skip":
        nexts = {at + 1 + step[1]}
    return [(at,) + way for each in nexts for way in ways_from(code, each)]


def random_code(rng, many):
    code = []
    for at in range(many):
        left = min(many - at - 1, rng.randrange(7))
        code.append(rng.choice([rng.choice(GOING_ON), unless(left), unless(left), ("skip", left)]))
    return tuple(code)


class Bills(unittest.TestCase):
    def check(self, code, many, way):
        self.assertEqual(bill(code), many)
        self.assertEqual(dear_way(code), way)

    def test_no_steps(self):
        self.check((), 0, ())

    def test_every_word(self):
        for step in GOING_ON:
            self.check((step,), 1, (0,))
        self.check(GOING_ON, len(GOING_ON), tuple(range(len(GOING_ON))))
        self.check((unless(0),), 1, (0,))
        self.check((("skip", 0),), 1, (0,))

    def test_passing_over(self):
        # The steps that an unless passes over are dearer than none.
        self.check((unless(2), PUT, PUT), 3, (0, 1, 2))
        # A skip is never gone around: what it passes over is not reached.
        self.check((("skip", 2), PUT, PUT, PUT), 2, (0, 3))
        self.check((("skip", 3), PUT, PUT, PUT), 1, (0,))
        # Passing over can be dearer: the way on ends in a skip.
        self.check((unless(1), ("skip", 3), PUT, PUT, PUT), 4, (0, 2, 3, 4))
        # An unless that is not reached makes nothing dearer.
        self.check((("skip", 1), unless(0), PUT), 2, (0, 2))

    def test_behind_the_last_step(self):
        self.check((PUT, unless(1), PUT), 3, (0, 1, 2))
        self.check((PUT, unless(2), ("skip", 1), PUT), 3, (0, 1, 2))
        self.check((unless(1), ("skip", 0)), 2, (0, 1))
        self.check((unless(3), ("skip", 2), PUT, PUT), 2, (0, 1))

    def test_greatest_of_several(self):
        # Both arms are one step long: the later one is greater.
        self.check((unless(2), PUT, ("skip", 1), PUT, PUT), 4, (0, 1, 2, 4))
        self.check((unless(1), ("skip", 1), PUT, PUT), 3, (0, 2, 3))
        self.check((unless(1), ("skip", 1), PUT), 2, (0, 2))
        code = (unless(2), PUT, ("skip", 2), PUT, PUT, unless(1), ("skip", 1), PUT)
        self.check(code, 5, (0, 3, 4, 5, 7))

    def test_random_codes(self):
        rng = random.Random(38)
        for many in list(range(1, 14)) * 40:
            code = random_code(rng, many)
            ways = ways_from(code, 0)
            longest = max(len(way) for way in ways)
            self.assertEqual(bill(code), longest, code)
            self.assertEqual(dear_way(code), max(way for way in ways if len(way) == longest), code)

    def test_very_many_ways(self):
        many = 4000
        code = (unless(2), PUT, ("skip", 1), PUT) * many
        self.assertEqual(bill(code), 3 * many)
        self.assertEqual(dear_way(code), tuple(at for at in range(4 * many) if at % 4 != 3))
        code = tuple(unless(many - at - 1) for at in range(many))
        self.check(code, many, tuple(range(many)))
        code = tuple(("skip", many - at - 1) for at in range(many))
        self.check(code, 1, (0,))

    def test_long_codes(self):
        code = (PUT,) * 200000 + (unless(100000),) + (PUT,) * 100000
        self.assertEqual(bill(code), 300001)
        self.assertEqual(dear_way(code), tuple(range(300001)))


class Ticks(unittest.TestCase):
    def test_no_tick_is_dearer(self):
        """Whatever is given, and whatever the cells contain."""
        rng = random.Random(5)
        for seed in range(60):
            made = random_image(seed, 1 + seed % 40)
            self.assertTrue(judged(made))
            machine = Machine(made)
            most = bill(made[5])
            for row in image_rows(seed, 12):
                machine.spoil([rng.choice([0, 1, 3, -10 ** 9]) for _ in range(20 - made[2])])
                machine.state = tuple(rng.choice([0, 1, 3, 10 ** 30]) for _ in range(made[2]))
                machine.tick(row)
                self.assertLessEqual(machine.steps, most)

    def test_the_longest_tick(self):
        """A code whose ways can all be gone: some tick is as dear as the bill."""
        code = (("unless", 0, 1, 2, None), PUT[:1] + (3, 1), ("skip", 1), PUT[:1] + (3, 2),
                ("unless", 1, 1, 1, None), PUT[:1] + (3, 3), ("unless", 2, 0, 1, None), ("put", 3, 4))
        made = ("image", (0,) * 4, 0, ((0, None, None), (1, None, None), (2, None, None)), (), code)
        self.assertTrue(judged(made))
        machine = Machine(made)
        taken = set()
        for row in [(a, b, c) for a in (0, 1) for b in (0, 1) for c in (0, 1)]:
            machine.tick(row)
            taken.add(machine.steps)
        self.assertEqual(max(taken), bill(code))
        self.assertEqual(len(dear_way(code)), bill(code))

    def test_images_of_flows(self):
        rng = random.Random(6)
        for seed in range(30):
            flow = random_flow(seed, 10 + seed)
            order = order_of(flow)
            made = image_of(flow, order, seats_of(flow, order))
            machine = Machine(made)
            most = bill(made[5])
            self.assertEqual(len(dear_way(made[5])), most)
            for row in random_rows(seed, 20):
                machine.spoil([rng.choice([0, 1, -5, 10 ** 12]) for _ in range(len(made[1]) - made[2])])
                machine.tick(row)
                self.assertLessEqual(machine.steps, most)


if __name__ == "__main__":
    unittest.main()
