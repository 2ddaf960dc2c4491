import random
import unittest

from keepsgoing.checking import checked
from keepsgoing.errors import CheckFault
from keepsgoing.flatten import flatten
from keepsgoing.flowof import flow_of
from keepsgoing.flowruns import FlowRun
from keepsgoing.flows import is_flow, is_straight, memory_of
from keepsgoing.imageof import image_of
from keepsgoing.images import is_image
from keepsgoing.improving import improved
from keepsgoing.kinds import has, values_of
from keepsgoing.machine import Machine
from keepsgoing.ops import result_kind
from keepsgoing.orders import order_of
from keepsgoing.reading import read_program
from keepsgoing.seats import judge_seats, seats_of
from tests.randomflows import random_flow
from tests.randomprograms import random_program
from tests.runchecks import check_state
from tests.slowmachine import SlowMachine, judged
from tests.test_orders import some_order

BOOL = ("bool",)
NUM = ("num", 0, 5, 1, "wrap")
HALF = ("num", -3, 4, 2, "hold")
TENTH = ("num", -20, 35, 10, "wrap")
MODE = ("mode", ("p", "q", "r"))
ONE_MODE = ("mode", ("z",))
BITS = ("row", BOOL, 6)
NUMS = ("row", HALF, 3)
MODES = ("row", MODE, 2)
SINGLE = ("row", NUM, 1)
X = (("x", BOOL, 0), ("y", BOOL, 0), ("n", NUM, 0), ("h", HALF, 0), ("t", TENTH, 0), ("m", MODE, 0), ("o", ONE_MODE, 0),
     ("b", BITS, 0), ("c", NUMS, 0), ("d", MODES, 0), ("s", SINGLE, 0), ("e", HALF, 1), ("f", NUMS, 1),
     ("l", BOOL, 2), ("k", NUMS, 2), ("b2", BITS, 0), ("c2", NUMS, 0), ("m2", MODE, 0))


def rows_of(seed, flow, many):
    rng = random.Random(seed)
    rows = []
    for _ in range(many):
        row = [tuple(rng.choice(values_of(kind[1])) for _ in range(kind[2])) if kind[0] == "row"
               else rng.choice(values_of(kind)) for _, kind, _ in flow[1]]
        rows.append(tuple(None if event == 1 and rng.random() < 0.4 else given
                          for given, (_, _, event) in zip(row, flow[1])))
    return rows


def flow(*nodes, shown=None):
    shown = range(len(nodes)) if shown is None else shown
    made = ("flow", X, nodes, tuple((f"o{at}", at) for at in shown), (), ())
    assert is_flow(made) and is_straight(made)
    return made


def inputs():
    """The nodes of all plain inputs, in order; node k is the input number k, up to 10."""
    return [("input", kind, (), at) for at, (_, kind, event) in enumerate(X[:11])]


class Watched(SlowMachine):
    """A slow machine that looks whether the remarks are true."""

    def __init__(self, image, case):
        super().__init__(image)
        self.case = case
        self.entries = None

    def do(self, step):
        if step[0] == "unless" and step[4] is not None:
            self.case.assertIsNotNone(self.entries[step[4]])
            self.case.assertEqual(self.cells[step[1]], self.entries[step[4]])
        return super().do(step)


def spread(contents):
    found = []
    for content in contents:
        found.extend(content if isinstance(content, tuple) else [content])
    return tuple(found)


def size(kind):
    return kind[2] if kind[0] == "row" else 1


class Images(unittest.TestCase):
    def images(self, made, rows, order=None, seating=None):
        """The image shows what the flow shows, whatever is in the cells that are not kept."""
        order = order_of(made) if order is None else order
        seating = seats_of(made, order) if seating is None else seating
        self.assertIs(judge_seats(made, order, seating), True)
        image = image_of(made, order, seating)
        self.assertTrue(is_image(image) and judged(image))
        self.check_cells(made, seating, image)
        run, machine, watched = FlowRun(made), Machine(image), Watched(image, self)
        rng = random.Random(len(rows))
        others = len(image[1]) - image[2]
        for row in rows:
            self.assertEqual(machine.state, spread(run.state))
            spoilt = tuple(rng.choice([0, 1, 2, -1, 10 ** 20, -5]) for _ in range(others))
            machine.spoil(spoilt)
            watched.cells[image[2]:] = spoilt
            shown = run.tick(row)
            watched.entries = run.entries
            self.assertEqual(machine.tick(row), shown)
            self.assertEqual(watched.tick(row), shown)
            self.assertEqual((machine.steps, machine.cells), (watched.steps, tuple(watched.cells)))
            for node, content in zip(memory_of(made), run.state):
                word, kind = made[2][node][:2]
                self.assertTrue(has(kind, content) if word == "delay" else 0 <= content < made[2][node][3])
        self.assertEqual(machine.state, spread(run.state))
        self.assertEqual(list(Machine(image).ticks(rows)), list(FlowRun(made).ticks(rows)))
        return image

    def check_cells(self, made, seating, image):
        _, cells, kept, given, shown, code = image
        nodes = made[2]
        memory = [nodes[node] for node in memory_of(made)]
        self.assertEqual(kept, sum(size(node[1]) for node in memory))
        self.assertEqual(cells[:kept], spread([node[3] if node[0] == "delay" else 0 for node in memory]))
        ins = sum(size(kind) + (event == 1) for _, kind, event in made[1])
        seats = {seat: size(node[1]) for seat, node in zip(seating, nodes)}
        self.assertLessEqual(len(cells), kept + ins + sum(seats.values()) + 8)
        self.assertEqual([each[1] for each in given],
                         [kind[2] if kind[0] == "row" else None for _, kind, _ in made[1]])
        self.assertEqual([each[2] is None for each in given], [event != 1 for _, _, event in made[1]])
        told = [nodes[node][1] for part in made[3:] for _, node in part]
        self.assertEqual([each[1] for each in shown], [kind[2] if kind[0] == "row" else None for kind in told])
        remarks = [step[4] for step in code if step[0] == "unless"]
        self.assertLessEqual({each for node in nodes for each, _ in node[2]}, set(remarks))


class Words(Images):
    def all_ways(self, *nodes):
        made = flow(*inputs(), *nodes)
        rows = rows_of(1, made, 40)
        order = order_of(made)
        self.images(made, rows, order, tuple(range(len(nodes) + 11)))
        return self.images(made, rows)

    def test_inputs(self):
        nodes = [("here", BOOL, (), 11), ("here", BOOL, (), 12), ("input", HALF, ((11, 1),), 11),
                 ("input", NUMS, ((12, 1),), 12), ("input", BOOL, (), 13), ("input", NUMS, ((0, 1),), 14)]
        self.all_ways(*nodes)

    def test_many_inputs(self):
        events = tuple((f"e{at}", NUMS if at % 2 else BOOL, 1) for at in range(30))
        nodes = [("here", BOOL, (), at) for at in range(30)]
        nodes += [("input", events[at][1], ((at, 1),), at) for at in range(30)]
        made = ("flow", events, tuple(nodes), tuple((f"o{at}", at) for at in range(60)), (), ())
        self.images(made, rows_of(3, made, 6))

    def test_consts_and_whens(self):
        self.all_ways(("const", NUM, (), 3), ("const", MODES, (), (2, 1)), ("const", NUMS, ((5, 2),), (-3, 0, 4)),
                      ("when", NUMS, ((0, 1),), 8), ("when", TENTH, ((5, 1),), 4), ("when", SINGLE, ((6, 0),), 10))

    def test_operations(self):
        """All operations on all kinds that they take."""
        kinds = [BOOL, NUM, HALF, TENTH, MODE, ONE_MODE, BITS, NUMS, MODES, SINGLE]
        nodes = [(("input", kind, (), next(at for at, each in enumerate(X) if each[1] == kind)), kind)
                 for kind in kinds]
        nodes += [(("input", X[at][1], (), at), X[at][1]) for at in (1, 15, 16, 17)]
        own = {kind: [at for at, (_, k) in enumerate(nodes) if k == kind] for kind in kinds}

        def two(kind):
            return (own[kind][0], own[kind][-1])
        for kind in kinds:
            a, b = two(kind)
            test = own[BOOL][-1]
            found = [("eq", a, b), ("ne", a, b), ("pick", test, a, b), ("vote", a, b, a), ("vote", a, a, b),
                     ("not", a), ("and", a, b), ("or", a, b), ("xor", a, b), ("lt", a, b), ("le", b, a), ("neg", a),
                     ("add", a, a), ("sub", a, b), ("mul", a, a), ("div", a, b), ("min", a, b), ("max", a, b),
                     ("mid", a, b, a), ("row", a), ("row", a, b, a, b, a, b), ("sum", a), ("any", a), ("all", a)]
            found += [("at", a, own[index][0]) for index in (NUM, HALF, TENTH)]
            for index in (NUM, HALF, TENTH):
                if kind[0] == "row":
                    found.append(("put", a, own[index][0], own[kind[1]][0]))
            for node in found:
                made = result_kind(node[0], tuple(nodes[each][1] for each in node[1:]))
                if made is not None:
                    nodes.append(((node[0], made, ()) + node[1:], made))
            if kind[0] == "num":
                nodes.extend([(("as", other, (), a), other) for other in (NUM, HALF, TENTH)])
        self.assertEqual({node[0] for node, _ in nodes} >= set("""not and or xor eq ne lt le neg add sub mul div min
            max mid as pick vote row at put sum any all""".split()), True)
        made = flow(*[node for node, _ in nodes])
        self.images(made, rows_of(2, made, 120))

    def test_merges(self):
        arms = [("const", NUMS, ((5, at),), (at, 0, 1)) for at in range(3)]
        slow = [("when", BOOL, ((0, 1),), 1), ("const", HALF, ((0, 1), (15, 0)), 3), ("const", HALF, ((0, 1), (15, 1)), 4),
                ("merge", HALF, ((0, 1),), 15, (16, 17)), ("const", NUM, ((6, 0),), 4), ("merge", NUM, (), 6, (19,)),
                ("const", NUMS, ((1, 0),), (1, 1, 1)), ("when", NUMS, ((1, 1),), 8), ("merge", NUMS, (), 1, (21, 22))]
        self.all_ways(*arms, ("merge", NUMS, (), 5, (11, 12, 13)), *slow)

    def test_delays_and_beats(self):
        on = ((0, 1),)
        self.all_ways(("delay", NUM, (), 4, 2, ()), ("delay", NUMS, (), (1, 2, 3), 8, (0, 1)), ("when", NUM, on, 2),
                      ("delay", NUM, on, 5, 13, ()), ("beat", BOOL, (), 3, 1), ("beat", BOOL, on, 1, 0),
                      ("beat", BOOL, on, 12, 11), ("delay", NUM, (), 2, 11, (15,)), ("delay", BOOL, (), 1, 19, ()),
                      ("delay", BOOL, (), 0, 20, ()))

    def test_resets_on_many_clocks(self):
        one, two, three = ((0, 1),), ((0, 1), (11, 0)), ((0, 1), (11, 0), (12, 2))
        nodes = [("when", BOOL, one, 1), ("when", MODE, two, 13), ("when", MODE, one, 5), ("beat", BOOL, two, 2, 0),
                 ("input", BOOL, three, 13), ("input", NUMS, three, 14), ("beat", BOOL, (), 4, 3),
                 ("beat", BOOL, one, 3, 2), ("delay", NUMS, three, (4, -3, 0), 16, (14, 15, 17, 18)),
                 ("delay", NUMS, three, (1, 1, 1), 16, (17,)), ("delay", BOOL, two, 1, 21, (1, 11)), ("not", BOOL, two, 21)]
        nodes[10] = ("delay", BOOL, two, 1, 22, (1, 11))
        made = flow(*inputs(), *nodes)
        self.images(made, rows_of(5, made, 400))

    def test_guards(self):
        """What is shown is None when its clock is not there, whatever the cells contain."""
        two = ((0, 1), (11, 1))
        made = flow(*inputs(), ("when", BOOL, ((0, 1),), 1), ("const", NUM, two, 3), shown=(12,))
        image = self.images(made, rows_of(6, made, 30))
        self.assertEqual([value for _, value in image[4][0][2]], [1, 1])


class Whole(Images):
    def test_random_flows(self):
        rng = random.Random(4)
        for seed in range(50):
            made = random_flow(seed, 12 + seed)
            rows = rows_of(seed, made, 9)
            self.images(made, rows)
            few = made[:3] + (made[3][::7],) + made[4:]
            order = some_order(rng, few)
            self.images(few, rows, order)
            many = len(few[2])
            self.images(few, rows, order, tuple(rng.sample(range(many), many)))

    def test_flows_of_programs(self):
        let = 0
        for seed in range(40):
            text, _ = random_program(seed)
            flat = flatten(read_program(text))
            try:
                checked(flat)
            except CheckFault:
                continue
            let += 1
            made = flow_of(flat)
            rows = rows_of(seed, made, 12)
            self.images(made, rows)
            self.images(improved(made), rows)
        self.assertGreater(let, 25)

    def test_states(self):
        """The ticks to come hang on the state alone; any contents of their kinds can be set."""
        rng = random.Random(5)
        for seed in range(30):
            made = random_flow(seed, 30)
            order = order_of(made)
            image = image_of(made, order, seats_of(made, order))
            rows = rows_of(seed, made, 10)
            run, machine = FlowRun(made), Machine(image)
            for _ in range(4):
                run.state = tuple(rng.choice(values_of(node[1])) if node[0] == "delay" else rng.randrange(node[3])
                                  for node in [made[2][at] for at in memory_of(made)])
                machine.state = spread(run.state)
                for row in rows[:3]:
                    self.assertEqual(machine.tick(row), run.tick(row))
                    self.assertEqual(machine.state, spread(run.state))
            check_state(self, lambda: Machine(image), rows)

    def test_exchanged_at_any_tick(self):
        made = random_flow(9, 40)
        order = order_of(made)
        image = image_of(made, order, seats_of(made, order))
        rows = rows_of(9, made, 12)
        wanted = list(FlowRun(made).ticks(rows))
        for at in range(12):
            machine = Machine(image)
            shown = list(machine.ticks(rows[:at]))
            machine.spoil((3,) * (len(image[1]) - image[2]))
            self.assertEqual(shown + list(machine.ticks(rows[at:])), wanted)

    def test_large_flows(self):
        resets = tuple(range(2, 602))
        nodes = [("input", BOOL, (), 0), ("input", NUMS, (), 8)] + [("not", BOOL, (), 0)] * 600
        nodes += [("delay", NUMS, (), (1, 2, 3), 1, resets)] * 600
        made = flow(*nodes, shown=(700, 1000))
        order = order_of(made)
        image = image_of(made, order, seats_of(made, order))
        self.assertIs(is_image(image), True)
        self.assertLess(len(image[5]), 20000000)
        nodes = [("input", BOOL, (), 0)]
        for at in range(999):
            nodes.append(("when", BOOL, nodes[-1][2] + ((at, 1),), at))
        made = flow(*nodes, shown=(999,))
        order = order_of(made)
        image = image_of(made, order, seats_of(made, order))
        self.assertIs(is_image(image), True)
        row = rows_of(1, made, 1)[0]
        machine = Machine(image)
        self.assertEqual([machine.tick((0,) + row[1:]), machine.tick((1,) + row[1:])], [(None,), (1,)])


if __name__ == "__main__":
    unittest.main()
