"""The whole: [63], [64], and what holds for all of it: [1]."""

import itertools
import random
import re
import unittest

from keepsgoing.checking import checked
from keepsgoing.deciding import decided
from keepsgoing.errors import (BadNumber, BadText, BadUse, CheckFault, ClockClash, KindClash, KindOpen, Ring, TooLarge, TooMany,
                               Twice, Unknown, Unset, Unsettled)
from keepsgoing.flatruns import FlatRun
from keepsgoing.flatten import flatten
from keepsgoing.flowof import flow_of
from keepsgoing.flows import is_flow, is_straight
from keepsgoing.imageof import image_of
from keepsgoing.images import is_image
from keepsgoing.improving import improved
from keepsgoing.machine import Machine
from keepsgoing.make import made, verdict
from keepsgoing.opening import opened
from keepsgoing.orders import judge_order, order_of
from keepsgoing.phases import account
from keepsgoing.reading import read_program
from keepsgoing.seats import judge_seats, lives, seats_of, size_of
from keepsgoing.treeruns import ProgramRun
from tests.randomprograms import KINDS, VALUES, Maker, random_program
from tests.randomprograms import random_rows as program_rows

BOOL = ("bool",)


def main(body, ins="a: bool, b: bool", outs="x: bool", ahead=""):
    return f"{ahead}unit main({ins}) gives ({outs}) {{ {body} }}"


def ring(at, size=12):
    """A ring of so many names that settles for all truths, with one operation for each name."""
    names = [f"r{at}x{k}" for k in range(size)]
    half = size // 2
    rows = [f"local {name}: bool;" for name in names]
    for k, name in enumerate(names):
        before = names[k - 1]
        rows.append(f"{name} = pick(a, b, {before});" if k == 0 else
                    f"{name} = pick(a, {before}, b);" if k == half else f"{name} = {before} and b;")
    return " ".join(rows)


def is_let(text):
    try:
        checked(flatten(read_program(text)))
        return True
    except CheckFault:
        return False


def let_programs(first, many):
    """So many random texts that are let, each with its seed and the kinds of its inputs."""
    found = []
    while len(found) < many:
        text, kinds = random_program(first)
        if is_let(text):
            found.append((first, text, kinds))
        first += 1
    return found


def long_sum(many):
    return " xor ".join(["a"] * many)


# For each stage a body with a fault of this stage and none of an earlier one.
FAULTS = [
    ("x = a; }", BadText), ("x = y;", Unknown), ("local a: bool; x = a;", Twice), ("x = a; x = b;", Twice),
    ("x = pick(a, b, as(1, num 3 .. 1 hold) < 1);", BadNumber), ("local m: bool; x = a;", BadUse),
    (" ".join(f"local v{at}: bool; v{at} = a;" for at in range(300)) + " x = a;", TooLarge),
    ("x = 1 < a;", KindClash), ("x = 1 < 2;", KindOpen),
    ("x = when(a, b is true) and a;", ClockClash), ("x = true == x;", Ring),
    ("x = " + "(" * 13 + "x and a" + ") and a" * 13 + ";", TooMany), ("x = not x;", Unsettled), ("x = last a;", Unset),
    (" ".join(f"local v{at}: bool; v{at} = {long_sum(60)};" for at in range(40)) + " x = a;", TooLarge),
    (" ".join(ring(at) for at in range(14)) + " x = a;", TooLarge)]


class Errors(unittest.TestCase):
    def raised(self, text):
        found = []
        for call in (made, lambda told: made(told, improve=0, share=0), lambda told: verdict(told, 1000)):
            try:
                call(text)
            except ValueError as error:
                found.append(error)
        self.assertEqual(len(found), 3)
        self.assertEqual(len({(type(error), tuple(vars(error).items())) for error in found}), 1)
        return found[0]

    def test_each_stage(self):
        for body, wanted in FAULTS:
            self.assertIs(type(self.raised(main(body))), wanted, body[:80])
        self.assertEqual(self.raised(main(FAULTS[6][0])).part, "flat")
        self.assertEqual(self.raised(main(FAULTS[11][0])).part, "ring")
        self.assertEqual(self.raised(main(FAULTS[14][0])).part, "flow")
        self.assertEqual(self.raised(main(FAULTS[15][0])).part, "flow")
        # The flow of the last one can be made; it is too large when it is opened.
        flow = flow_of(flatten(read_program(main(FAULTS[15][0]))))
        self.assertFalse(is_straight(flow))
        with self.assertRaises(TooLarge):
            opened(flow)

    def test_the_first_of_two(self):
        """Two faults in one text: that of the earlier stage is told, wherever it stands."""
        order = [BadText, (Unknown, Twice, BadNumber, BadUse), "flat", KindClash, KindOpen, ClockClash, Ring, Unset, "flow"]
        many = " ".join(f"local m{at}: bool; m{at} = a;" for at in range(300))
        sums = " ".join(f"local s{at}: bool; s{at} = {long_sum(60)};" for at in range(40))
        samples = ["local q: bool; q = z z;", "local r: bool; r = zz;", many, "local t: bool; t = 1 < a;",
                   "local u: bool; u = 1 < 2;", "local v: bool; v = when(a, b is true) and a;",
                   "local w: bool; w = w == true;", "keep last a;", sums]

        def stage(error):
            if isinstance(error, TooLarge):
                return order.index(error.part)
            return next(at for at, told in enumerate(order) if not isinstance(told, str) and isinstance(error, told))
        for one, two in itertools.permutations(range(len(samples)), 2):
            # Which of two kinds of clashes is told first is looked at in the tests of kinds.
            if {one, two} == {3, 4}:
                continue
            text = main(samples[one] + " " + samples[two] + " x = a;")
            self.assertEqual(stage(self.raised(text)), min(one, two), (one, two))

    def test_nothing_changes(self):
        good = main("x = a; keep x or not a;")
        before = made(good), verdict(good, 10)
        for body, _ in FAULTS[:14]:
            self.raised(main(body))
        self.assertEqual((made(good), verdict(good, 10)), before)


class Made(unittest.TestCase):
    def test_its_parts(self):
        for _, text, _ in let_programs(0, 15):
            flat = flatten(read_program(text))
            plain = flow_of(flat)
            self.assertTrue(is_straight(plain))
            for improve, share in itertools.product((0, 1), repeat=2):
                told = made(text, improve=improve, share=share)
                self.assertEqual(told[:2], ("made", flat))
                flow = improved(plain) if improve else plain
                order = order_of(flow)
                seating = seats_of(flow, order) if share else tuple(range(len(flow[2])))
                self.assertEqual(told[2:5], (flow, order, seating))
                self.assertTrue(judge_order(flow, order) and judge_seats(flow, order, seating))
                image = image_of(flow, order, seating)
                self.assertEqual(told[5:], (image, account(flow, image)))
                self.assertTrue(is_image(told[5]))
            self.assertEqual(made(text), made(text, improve=1, share=1))
            self.assertEqual(made(text, share=0), made(text, improve=1, share=0))
            self.assertEqual(made(text, improve=0), made(text, improve=0, share=1))

    def test_sharing(self):
        """Shared seats are as few as there can be; without sharing each node has its own."""
        _, text, _ = let_programs(3, 1)[0]
        _, _, flow, order, seating, image, _ = made(text)
        told = lives(flow, order)
        most = {}
        for place in range(len(order) + 1):
            here = [size_of(flow[2][node][1]) for node, (first, last) in enumerate(told) if first <= place <= last]
            for size in here:
                most[size] = max(most.get(size, 0), here.count(size))
        self.assertEqual(len(set(seating)), sum(most.values()))
        self.assertLess(len(image[1]), len(made(text, share=0)[5][1]))

    def test_knots(self):
        text = main(ring(0, 6) + " " + ring(1, 4) + " x = r0x3 xor last r1x2 xor r1x1; keep x or not x;".replace(
            "last r1x2", "(true then last r1x2)"))
        for improve in (0, 1):
            told = made(text, improve=improve)
            self.assertTrue(is_flow(told[2]) and is_straight(told[2]))
            rows = [(n % 2, n // 2 % 2) for n in range(24)]
            self.assertEqual(list(Machine.of(told).ticks(rows)), list(FlatRun(told[1]).ticks(rows)))
        self.assertEqual(verdict(text, 100)[0], "kept")


class Machines(unittest.TestCase):
    def check(self, text, rows, run, **asked):
        told = made(text, **asked)
        cells, kept, bill, bills = told[6]
        machine = Machine.of(told)
        self.assertEqual((len(machine.cells), len(machine.state)), (cells, kept))
        total = 0
        for tick, row in enumerate(rows):
            self.assertEqual(machine.tick(row), run.tick(row), (text, tick))
            self.assertLessEqual(machine.steps, bills[tick % len(bills)])
            self.assertLessEqual(bills[tick % len(bills)], bill)
            total += machine.steps
            self.assertEqual((machine.total, len(machine.cells)), (total, cells))

    def test_random_texts(self):
        for seed, text, kinds in let_programs(100, 40):
            rows = program_rows(seed, kinds, 60)
            asked = dict(improve=seed % 2, share=seed // 2 % 2)
            self.check(text, rows, ProgramRun(read_program(text)), **asked)

    def test_long_runs(self):
        for seed, text, kinds in let_programs(200, 3):
            self.check(text, program_rows(seed, kinds, 700), ProgramRun(read_program(text)))

    def test_beats_and_rates(self):
        text = main("""local d: bool; local e: bool; e = when(a, every 3 from 1);
            d = held(false, not e and when(b, every 3 from 1) xor (e or e then last e), every 3 from 1);
            local c: bool; c = weave(when(a, every 2 from 0), when(b, every 2 from 1));
            x = held(c, when(held(d, when(c, d is true), d is true), every 4 from 3), every 4 from 3);""")
        rows = [(n % 3 % 2, n // 3 % 2) for n in range(200)]
        for improve in (0, 1):
            self.check(text, rows, ProgramRun(read_program(text)), improve=improve)
            bills = made(text, improve=improve)[6][3]
            self.assertEqual(len(bills), 12)
            self.assertGreater(max(bills), min(bills))

    def test_spoilt_and_stopped(self):
        _, text, kinds = let_programs(5, 1)[0]
        rows = program_rows(5, kinds, 30)
        told = made(text)
        wanted = list(ProgramRun(read_program(text)).ticks(rows))
        state = Machine.of(told).state
        for row, shown in zip(rows, wanted):
            machine = Machine.of(told)
            machine.spoil([7] * (told[6][0] - told[6][1]))
            machine.resume(state)
            self.assertEqual(machine.tick(row), shown)
            state = machine.state

    def test_two_programs_by_turns(self):
        texts = [(text, kinds) for _, text, kinds in let_programs(2, 2)]
        rows = [program_rows(1, kinds, 25) for _, kinds in texts]
        wanted = [list(Machine.of(made(text)).ticks(each)) for (text, _), each in zip(texts, rows)]
        one, two = [Machine.of(made(text)) for text, _ in texts]
        other = Machine.of(made(texts[0][0]))
        got = [], []
        for at in range(25):
            got[0].append(one.tick(rows[0][at]))
            other.tick(rows[0][-1 - at])
            got[1].append(two.tick(rows[1][at]))
        self.assertEqual(list(got), wanted)


def small_text(seed):
    """A text with few rows: a drawn unit in a top that gives it what few inputs tell."""
    maker = Maker(seed)
    text = KINDS
    rng = maker.random
    for at in range(rng.choice([0, 1])):
        text += maker.unit(f"u{at}", False, 0, 1)[0]
    unit, kinds = maker.unit("inner", False, rng.choice([0, 1]), 1)
    out = maker.units[-1][2]
    args = {"bool": "a", "lv": "pick(a, 3, - 2)", "wr": "pick(a, 4, 0)", "md": "pick(a, md.cc, md.aa)"}
    given = [args["lv"], rng.choice(["else(e, a)", "a", "here(e)"]), args[kinds[2]]]
    if rng.random() < 0.9:
        text, unit = [re.sub("(assume|keep) [^;]*;", "", each) for each in (text, unit)]
    value = rng.choice(VALUES[out])
    claims = rng.choice(["", f"assume a or (true then last a);", "assume else(e, true);"])
    claims += rng.choice([f"keep x != {value} or a;", f"keep true then last x != {value};", ""])
    top = f"unit top(a: bool, event e: bool) gives (x: {out}) {{ {claims} use x = inner({', '.join(given)}); }}\n"
    return text + unit + top


ROWS = [(a, e) for a in (0, 1) for e in (None, 0, 1)]


def breaks(flat, shown):
    """Whether what is shown is not let, and whether it breaks a keep."""
    outs, assumes = len(flat[3]), len(flat[4])
    return 0 in shown[outs:outs + assumes], 0 in shown[outs + assumes:]


def first_breaking(text, longest):
    """The shortest rows that break the contract of the plain run, by trying all."""
    program = read_program(text)
    flat = flatten(program)
    for many in range(1, longest + 1):
        for rows in itertools.product(ROWS, repeat=many):
            told = [breaks(flat, shown) for shown in ProgramRun(program).ticks(rows)]
            if not any(barred for barred, _ in told) and told[-1][1]:
                return rows
    return None


class Verdicts(unittest.TestCase):
    def test_by_hand(self):
        text = main("assume a; x = false then last b; keep not x;")
        self.assertEqual(verdict(text, 10), ("broken", ((1, 1), (1, 0))))
        self.assertEqual(verdict(main("assume a; x = a; keep x;"), 1), ("kept", ((),)))
        count = main("local n: num 0 .. 5 wrap; n = 0 then last n + 1; x = n < 6; keep x and a or not a;".replace("n < 6", "n <= 5"))
        told = verdict(count, 7)
        self.assertEqual(told[0], "kept")
        counting = main("local n: num 0 .. 5 wrap; n = 0 then last n + 1; x = n < 5; keep x;")
        self.assertEqual(verdict(counting, 6), ("broken", ((0, 0),) * 6))
        with self.assertRaises(TooMany) as caught:
            verdict(counting, 5)
        self.assertEqual(caught.exception.part, "states")
        with self.assertRaises(TooMany) as caught:
            verdict(main("x = a;", "a: bool, b: bool, c: bool, d: bool, e: bool"), 100)
        self.assertEqual(caught.exception.part, "rows")

    def test_of_the_improved_flow(self):
        for text in [text for text in map(small_text, range(60)) if is_let(text)]:
            try:
                told = verdict(text, 3000)
            except TooMany:
                continue
            self.assertEqual(told, decided(made(text)[2], 3000))
            self.assertEqual(told, decided(made(text, share=0)[2], 3000))

    def test_random_texts(self):
        broken = kept = long = 0
        for seed in range(150):
            text = small_text(seed)
            if not is_let(text):
                continue
            try:
                told = verdict(text, 3000)
            except TooMany as error:
                self.assertEqual(error.part, "states")
                continue
            self.assertEqual(verdict(text, 3000), told)
            if told[0] == "broken":
                broken += 1
                long += len(told[1]) > 1
                if len(told[1]) <= 3:
                    self.assertEqual(told[1], first_breaking(text, 3))
                continue
            kept += 1
            self.assertIsNone(first_breaking(text, 2))
            self.check_kept(text, seed)
        self.assertTrue(broken > 30 and kept > 15 and long > 10, (broken, kept, long))

    def check_kept(self, text, seed):
        """Long runs of the plain run by rows that are let break nothing."""
        rng = random.Random(seed)
        program = read_program(text)
        flat = flatten(program)
        for _ in range(3):
            run = ProgramRun(program)
            for _ in range(25):
                barred, broken = breaks(flat, run.tick(rng.choice(ROWS)))
                if barred:
                    break
                self.assertFalse(broken)

    def test_equal_texts(self):
        """However often, in whatever order, and however the text is set."""
        texts = [text for text in map(small_text, range(60)) if is_let(text)][:5]

        def told(text):
            try:
                return verdict(text, 2000)
            except TooMany as error:
                return error.part
        first = [told(text) for text in texts]
        self.assertEqual([told(text) for text in reversed(texts)], first[::-1])
        self.assertEqual([told(text.replace(" ", "  \n")) for text in texts], first)


if __name__ == "__main__":
    unittest.main()
