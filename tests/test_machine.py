import random
import unittest

from keepsgoing.images import is_image
from keepsgoing.machine import Machine
from tests.runchecks import check_state, check_ticks
from tests.slowmachine import OPERANDS, SlowMachine, image_rows, judged, operated, random_image

BOOL = ("bool",)
NUM = ("num", 0, 5, 1, "wrap")
HALF = ("num", -3, 4, 2, "hold")
UP = ("num", 2, 9, 3, "wrap")
DOWN = ("num", -9, -2, 10, "hold")
BIG = 10 ** 40


def image(cells, kept, inputs, shown, *code):
    made = ("image", tuple(cells), kept, tuple(inputs), tuple(shown), code)
    assert is_image(made) and judged(made)
    return made


class Steps(unittest.TestCase):
    def behind(self, cells, *code):
        """What the cells contain behind a tick with this code."""
        machine = Machine(image(cells, 0, (), (), *code))
        machine.tick(())
        return machine.cells

    def test_put_and_copy(self):
        self.assertEqual(self.behind((5, 6, 7), ("put", 1, -3)), (5, -3, 7))
        self.assertEqual(self.behind((5, 6, 7), ("copy", 0, 2)), (7, 6, 7))
        self.assertEqual(self.behind((5, 6), ("copy", 1, 0), ("put", 0, 9), ("copy", 0, 0)), (9, 5))

    def test_operations(self):
        """Each operation with cells that contain any integers."""
        numbers = (0, 1, 2, -1, 3, 5, -7, 1000000, BIG, -BIG)
        rng = random.Random(1)
        for op, count in OPERANDS.items():
            kinds = (NUM, HALF, UP, DOWN) if op in ("neg", "add", "sub", "mul", "div") else (BOOL,)
            for kind in kinds:
                for _ in range(60):
                    values = [rng.choice(numbers) for _ in range(count)]
                    got = self.behind(values + [88], ("do", op, kind, count, tuple(range(count))))
                    self.assertEqual(got, tuple(values) + (operated(op, kind, values),), (op, kind))

    def test_operations_by_hand(self):
        def told(op, kind, *values):
            return self.behind(values + (0,), ("do", op, kind, len(values), tuple(range(len(values)))))[-1]
        self.assertEqual([told("not", BOOL, value) for value in (0, 1, -4, BIG)], [1, 0, 0, 0])
        self.assertEqual([told("and", BOOL, a, b) for a, b in ((2, 4), (2, 0), (0, 0), (-1, 1))], [1, 0, 0, 1])
        self.assertEqual([told("or", BOOL, a, b) for a, b in ((2, 4), (2, 0), (0, 0), (0, -1))], [1, 1, 0, 1])
        self.assertEqual([told("xor", BOOL, a, b) for a, b in ((2, 4), (2, 0), (0, 0), (0, -1))], [0, 1, 0, 1])
        self.assertEqual([told("pick", BOOL, a, 70, 80) for a in (0, 1, 2, -1)], [80, 70, 70, 70])
        self.assertEqual(told("mid", BOOL, 9, -4, 3), 3)
        self.assertEqual([told("vote", BOOL, a, b, 7) for a, b in ((3, 3), (3, 4), (BIG, BIG))], [3, 7, BIG])
        self.assertEqual([told("lt", BOOL, 3, BIG), told("le", BOOL, BIG, BIG), told("lt", BOOL, BIG, BIG)], [1, 1, 0])
        self.assertEqual([told("div", UP, a, 0) for a in (4, -4, 0)], [9, 2, 8])
        self.assertEqual([told("mul", HALF, 3, 3), told("mul", HALF, -1, 3), told("neg", NUM, 2)], [4, -2, 4])

    def test_operands_that_get_the_result(self):
        self.assertEqual(self.behind((3, 4), ("do", "sub", NUM, 0, (0, 0))), (0, 4))
        self.assertEqual(self.behind((3, 4), ("do", "add", NUM, 1, (0, 1))), (3, 1))
        self.assertEqual(self.behind((0, 4, 5), ("do", "pick", BOOL, 0, (0, 1, 2))), (5, 4, 5))

    def test_as(self):
        self.assertEqual(self.behind((5, 0), ("as", HALF, 1, 1, 0)), (5, 4))
        self.assertEqual(self.behind((-3, 0), ("as", ("num", -9, 9, 1, "hold"), 2, 1, 0)), (-3, -2))
        self.assertEqual(self.behind((17, 0), ("as", NUM, 10, 1, 0)), (17, 1))
        self.assertEqual(self.behind((-BIG, 0), ("as", HALF, 10, 1, 0)), (-BIG, -3))

    def test_load_and_store(self):
        for index, per, wanted in ((0, 1, 10), (2, 1, 12), (3, 1, 12), (-1, 1, 10), (BIG, 1, 12), (-BIG, 7, 10),
                                   (5, 3, 11), (-1, 100, 10), (99, 100, 10), (100, 100, 11)):
            self.assertEqual(self.behind((10, 11, 12, index, 0), ("load", 4, 0, 3, 3, per))[4], wanted)
        for index, per, at in ((0, 1, 0), (2, 1, 2), (3, 1, None), (-1, 1, None), (BIG, 1, None), (5, 3, 1),
                               (-1, 100, None), (99, 100, 0), (299, 100, 2), (300, 100, None)):
            wanted = [10, 11, 12]
            if at is not None:
                wanted[at] = 50
            got = self.behind((10, 11, 12, index, 50), ("store", 0, 3, 3, per, 4))
            self.assertEqual(got[:3], tuple(wanted))
        # A store writes what its cell contains, also into its own index.
        self.assertEqual(self.behind((1, 7), ("store", 0, 2, 0, 1, 1)), (1, 7))
        self.assertEqual(self.behind((1, 0), ("store", 0, 2, 0, 1, 0)), (1, 1))

    def test_ways(self):
        code = (("unless", 0, 3, 2, None), ("put", 1, 1), ("skip", 1), ("put", 1, 2), ("put", 2, 9))
        for content, wanted, many in ((3, 1, 4), (4, 2, 3), (-BIG, 2, 3)):
            machine = Machine(image((content, 0, 0), 0, (), ((1, None, ()),), *code))
            self.assertEqual(machine.tick(()), (wanted,))
            self.assertEqual(machine.cells, (content, wanted, 9))
            self.assertEqual(machine.steps, many)
        machine = Machine(image((0,), 0, (), (), ("skip", 2), ("put", 0, 1), ("put", 0, 2)))
        machine.tick(())
        self.assertEqual((machine.cells, machine.steps), ((0,), 1))
        machine = Machine(image((7,), 0, (), ((0, None, ()),)))
        self.assertEqual((machine.tick(()), machine.steps, machine.total), ((7,), 0, 0))


class Ticks(unittest.TestCase):
    def test_inputs(self):
        made = image((9,) * 8, 0, ((0, None, None), (1, 2, None), (3, None, 4), (5, 2, 7)), ())
        machine = Machine(made)
        machine.tick((1, (2, 3), None, None))
        self.assertEqual(machine.cells, (1, 2, 3, 9, 0, 9, 9, 0))
        machine.tick((1, (2, 3), 4, (5, 6)))
        self.assertEqual(machine.cells, (1, 2, 3, 4, 1, 5, 6, 1))
        machine.tick((7, (8, 9), None, (0, 1)))
        self.assertEqual(machine.cells, (7, 8, 9, 4, 0, 0, 1, 1))

    def test_inputs_one_by_one(self):
        # Later inputs are written over earlier ones, and the cell here behind the value.
        machine = Machine(image((0,) * 3, 0, ((0, 3, None), (1, None, 1), (2, None, 1)), ()))
        machine.tick(((5, 6, 7), 8, None))
        self.assertEqual(machine.cells, (5, 0, 7))
        machine.tick(((5, 6, 7), None, 9))
        self.assertEqual(machine.cells, (5, 1, 9))

    def test_shown(self):
        made = image((1, 2, 3), 0, (), ((2, None, ()), (1, 2, ()), (0, 1, ()), (0, None, ((1, 2),)),
                                        (0, None, ((1, 3),)), (0, 3, ((0, 1), (2, 3))), (0, 3, ((0, 1), (2, 4)))))
        self.assertEqual(Machine(made).tick(()), (3, (2, 3), (1,), 1, None, (1, 2, 3), None))

    def test_cells_go_on(self):
        made = image((5, 6, 7), 1, ((1, None, None),), ((2, None, ()),), ("do", "add", ("num", 0, 99, 1, "wrap"), 2, (1, 2)),
                     ("copy", 0, 1))
        machine = Machine(made)
        self.assertEqual(machine.cells, (5, 6, 7))
        self.assertEqual(machine.state, (5,))
        self.assertEqual([machine.tick((n,)) for n in (1, 2, 3)], [(8,), (10,), (13,)])
        self.assertEqual((machine.cells, machine.state), ((3, 3, 13), (3,)))

    def test_random_images(self):
        for seed in range(120):
            made = random_image(seed, 1 + seed)
            machine, slow = Machine(made), SlowMachine(made)
            for row in image_rows(seed, 8):
                self.assertEqual(machine.tick(row), slow.tick(row), seed)
                self.assertEqual(machine.cells, tuple(slow.cells))
                self.assertEqual((machine.steps, machine.total), (slow.steps, slow.total))
                self.assertEqual(machine.state, tuple(slow.cells[:made[2]]))

    def test_images_stay(self):
        made = random_image(3, 40)
        before = repr(made)
        list(Machine(made).ticks(image_rows(3, 10)))
        self.assertEqual(repr(made), before)


class States(unittest.TestCase):
    # A counter with memory in cell 0; cell 1 is work, and is written ahead of its use.
    COUNT = image((3, 0, 0), 1, ((2, None, None),), ((1, None, ()),), ("copy", 1, 0), ("unless", 2, 1, 1, None),
                  ("do", "add", ("num", 0, 9, 1, "wrap"), 0, (0, 2)))

    def test_state(self):
        rows = [(n,) for n in (0, 1, 1, 0, 1, 1, 1, 0)]
        check_ticks(self, lambda: Machine(self.COUNT), rows)
        check_state(self, lambda: Machine(self.COUNT), rows)

    def test_setting_a_state_leaves_the_rest(self):
        machine = Machine(self.COUNT)
        machine.tick((1,))
        machine.tick((0,))
        self.assertEqual((machine.steps, machine.total, machine.cells), (2, 5, (4, 4, 0)))
        machine.state = (7,)
        self.assertEqual((machine.steps, machine.total, machine.cells), (2, 5, (7, 4, 0)))
        self.assertIsNone(machine.resume((8,)))
        self.assertEqual((machine.steps, machine.total, machine.cells), (2, 5, (8, 4, 0)))
        self.assertEqual(machine.tick((1,)), (8,))
        self.assertEqual((machine.steps, machine.total, machine.cells), (3, 8, (9, 8, 1)))

    def test_trials(self):
        machine = Machine(self.COUNT)
        with machine.trial() as held:
            held.tick((1,))
            held.tick((1,))
        self.assertEqual((machine.steps, machine.total, machine.cells), (3, 6, (3, 4, 1)))
        self.assertEqual(machine.tried([(1,), (0,)]), ((3,), (4,)))
        self.assertEqual((machine.steps, machine.total, machine.cells), (2, 11, (3, 4, 0)))
        self.assertEqual(machine.state, (3,))

    def test_spoil(self):
        machine = Machine(self.COUNT)
        self.assertIsNone(machine.spoil((BIG, -1)))
        self.assertEqual((machine.cells, machine.state), ((3, BIG, -1), (3,)))
        self.assertEqual(machine.tick((1,)), (3,))
        machine.spoil([7, 8])
        self.assertEqual((machine.cells, machine.steps, machine.total), ((4, 7, 8), 3, 3))
        all_kept = Machine(image((1,), 1, (), ()))
        self.assertIsNone(all_kept.spoil(()))
        self.assertEqual(all_kept.cells, (1,))

    def test_ahead_of_the_first_tick(self):
        machine = Machine(self.COUNT)
        self.assertEqual((machine.steps, machine.total, machine.cells, machine.state), (0, 0, (3, 0, 0), (3,)))

    def test_two_machines(self):
        for seed in range(10):
            made = random_image(seed, 60)
            rows = image_rows(seed, 8)
            alone = list(Machine(made).ticks(rows))
            one, two = Machine(made), Machine(made)
            shown = []
            for at, row in enumerate(rows):
                shown.append(one.tick(row))
                two.tick(rows[-1 - at])
                two.spoil((5,) * (20 - made[2]))
            self.assertEqual(shown, alone)

    def test_of(self):
        made = ("made", None, None, None, None, self.COUNT, None)
        machine = Machine.of(made)
        self.assertIs(type(machine), Machine)
        self.assertEqual([machine.tick((1,)), machine.tick((1,)), machine.state], [(3,), (4,), (5,)])


if __name__ == "__main__":
    unittest.main()
