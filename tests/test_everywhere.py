"""What holds for all functions: [2]."""

import unittest

from keepsgoing.alike import alike
from keepsgoing.checking import checked
from keepsgoing.classes import judge_classes, merged
from keepsgoing.clocksof import clocks_of
from keepsgoing.errors import GoingError
from keepsgoing.flatrings import check_rings, settle
from keepsgoing.flatruns import FlatRun, lasts_of
from keepsgoing.flatten import flatten
from keepsgoing.flowof import flow_of
from keepsgoing.flowruns import FlowRun
from keepsgoing.flows import hangs, is_flow, is_straight, knots_of, memory_of
from keepsgoing.imageof import image_of
from keepsgoing.images import is_image
from keepsgoing.improving import improved, needed, swept
from keepsgoing.kinds import fit, has, how_many, is_kind, values_of, zero
from keepsgoing.kindsof import kinds_of
from keepsgoing.knotruns import KnotRun
from keepsgoing.knots import entering, judge_knots, settles
from keepsgoing.machine import Machine
from keepsgoing.naming import check_names
from keepsgoing.opening import opened
from keepsgoing.ops import result, result_kind
from keepsgoing.orderruns import OrderRun
from keepsgoing.orders import judge_order, order_of
from keepsgoing.rates import one_beat, rate_of
from keepsgoing.reading import read_program
from keepsgoing.seats import judge_seats, lives, seats_of
from keepsgoing.starts import check_starts, grades_of, is_started
from keepsgoing.steady import judge_steady, settled, steady
from keepsgoing.tokens import tokens_of
from keepsgoing.traces import blame, trace_of
from keepsgoing.treeruns import ProgramRun
from keepsgoing.writing import write_expr, write_kind, write_program
from tests.knotflows import knot_flow, slow_let
from tests.latercalls import later_calls
from tests.randomflows import random_flow, random_rows
from tests.randomprograms import random_program
from tests.randomprograms import random_rows as program_rows

BOOL = ("bool",)
NUM = ("num", -3, 4, 2, "wrap")


def is_plain(thing):
    """Nested tuples of integers, strings and None, without True and False."""
    if type(thing) is tuple:
        return all(is_plain(part) for part in thing)
    return thing is None or type(thing) in (int, str)


def told(call):
    try:
        return call()
    except GoingError as error:
        return type(error).__name__, tuple(sorted(vars(error).items()))


def calls():
    """Calls of all functions, each with the shape of its answer."""
    text, kinds = random_program(0)
    program = read_program(text)
    flat = flatten(program)
    flow = random_flow(1, 30)
    rows = random_rows(1, 5)
    flat_rows = program_rows(0, kinds, 5)
    a = ("name", "a")
    plain = [
        lambda: values_of(NUM), lambda: how_many(NUM), lambda: zero(NUM), lambda: fit(NUM, 77),
        lambda: values_of(("row", NUM, 6)), lambda: result_kind("add", (NUM, NUM)),
        lambda: result_kind("add", (NUM, BOOL)), lambda: result("lt", (NUM, NUM), (1, 2)),
        lambda: result("eq", (("row", BOOL, 2),) * 2, ((0, 1), (0, 1))),
        lambda: result("row", (NUM, NUM), (1, 2)), lambda: tokens_of(text),
        lambda: read_program(text), lambda: read_program(text[:500]),
        lambda: write_program(program), lambda: write_expr(("add", a, a)), lambda: write_kind(NUM),
        lambda: check_names(program), lambda: flatten(program), lambda: kinds_of(flat),
        lambda: clocks_of(flat), lambda: grades_of(flat), lambda: check_rings(flat),
        lambda: check_starts(flat), lambda: rate_of((("every", 3, 1, None),)),
        lambda: settle(("x",), (("and", a, ("name", "x")),), (a,), (1,)),
        lambda: hangs(flow, 3), lambda: knots_of(flow), lambda: memory_of(flow),
        lambda: tuple(FlowRun(flow).ticks(rows)), lambda: FlowRun(flow).state,
        lambda: FlowRun(flow).tried(rows), lambda: tuple(ProgramRun(program).ticks(flat_rows))]
    plain.extend(stage_calls(flat, flat_rows, flow, tuple(rows)))
    bools = [
        lambda: judge_knots(flow), lambda: judge_order(flow, (0, 1)),
        lambda: judge_order(flow, order_of(flow)), lambda: judge_classes(flow, alike(flow)),
        lambda: judge_classes(flow, (0,)), lambda: judge_steady(flow, steady(flow)),
        lambda: judge_steady(flow, (0,)), lambda: judge_seats(flow, order_of(flow), ()),
        lambda: judge_seats(flow, order_of(flow), tuple(range(30))),
        lambda: is_image(image_of(flow, order_of(flow), tuple(range(30)))), lambda: is_image(("image",)),
        lambda: is_kind(NUM), lambda: is_kind(("bool", 3)), lambda: is_kind(("mode", ())),
        lambda: has(NUM, 3), lambda: has(NUM, None), lambda: has(("row", BOOL, 2), (0, 1)),
        lambda: is_flow(flow), lambda: is_flow(flow[:2] + ((),) + flow[3:]),
        lambda: is_straight(flow), lambda: is_started(flat), lambda: one_beat((), ())]
    later, judges = later_calls()
    return plain + later, bools + judges


def stage_calls(flat, flat_rows, flow, rows):
    knotted = next(made for made in (knot_flow(seed, 20, 2) for seed in range(90))
                   if slow_let(made) and len(opened(made)[2]) > len(made[2]))
    knot = knots_of(knotted)[0]
    order = order_of(flow)
    seating = seats_of(flow, order)
    image = image_of(flow, order, seating)
    trace = trace_of(flow, rows)
    return [
        lambda: checked(flat), lambda: lasts_of(flat), lambda: tuple(FlatRun(flat).ticks(flat_rows)),
        lambda: flow_of(flat), lambda: entering(knotted, knot), lambda: settles(knotted, knot),
        lambda: tuple(KnotRun(knotted).ticks(rows)), lambda: KnotRun(knotted).tried(rows),
        lambda: opened(knotted), lambda: order_of(flow), lambda: OrderRun(flow, order).tried(rows),
        lambda: trace_of(flow, rows), lambda: blame(flow, rows, trace),
        lambda: blame(flow, rows, trace[1:] + trace[:1]), lambda: alike(flow),
        lambda: merged(flow, alike(flow)), lambda: steady(flow), lambda: settled(flow, steady(flow)),
        lambda: needed(flow), lambda: swept(flow), lambda: improved(flow), lambda: lives(flow, order),
        lambda: seats_of(flow, order), lambda: image_of(flow, order, seating),
        lambda: tuple(Machine(image).ticks(rows)), lambda: Machine(image).cells,
        lambda: Machine(image).state, lambda: (Machine(image).steps, Machine(image).total)]


class Everywhere(unittest.TestCase):
    def test_equal_answers_in_any_order(self):
        plain, bools = calls()
        first = [told(call) for call in plain + bools]
        again = [told(call) for call in reversed(plain + bools)]
        self.assertEqual(first, list(reversed(again)))
        other = [told(call) for each in calls() for call in each]
        self.assertEqual(first, other)

    def test_answers_are_plain(self):
        plain, bools = calls()
        for call in plain:
            self.assertTrue(is_plain(told(call)), told(call))
        for call in bools:
            self.assertIs(type(call()), bool)

    def test_errors_change_nothing(self):
        program = read_program("unit u(a: bool) gives (x: bool) { x = a; }")
        before = flatten(program)
        for text in ("unit", "kind", "unit u(a: bool) gives (x: bool) { x = ; }"):
            with self.assertRaises(GoingError):
                read_program(text)
        with self.assertRaises(GoingError):
            check_names(read_program("unit u(a: bool) gives (x: bool) { x = b; }"))
        self.assertEqual(flatten(program), before)

    def test_judges_take_wrong_numbers_words_and_lengths(self):
        for thing in ((), ("num",), ("row", ("row",), -1), ("mode", (1, None)), ("num", None, (), "", 0)):
            self.assertIs(is_kind(thing), False)
        for thing in ((), ("flow",), ("flow", (), (), (), (), ()), ("flow", (), ((),), (), (), ()),
                      ("flow", (), (("add", BOOL, ((-5, 7),), -1),), (), (), ())):
            self.assertIs(is_flow(thing), False)
        flow = random_flow(1, 8)
        order = order_of(flow)
        for paper in ((), (0,) * 7, (0,) * 9, (-1,) * 8, (8,) * 8, (1000000,) * 8, (-1000000,) * 8,
                      (None,) * 7, ("",) * 8):
            self.assertIs(judge_order(flow, paper), False)
            self.assertIs(judge_classes(flow, paper), False)
            self.assertIs(judge_steady(flow, paper), False)
            self.assertIs(judge_seats(flow, order, paper), False)

    def test_arguments_stay(self):
        # Tuples cannot change; lists of rows could.
        flow = random_flow(2, 20)
        rows = random_rows(2, 5)
        kept = list(rows)
        list(KnotRun(flow).ticks(rows))
        OrderRun(flow, order_of(flow)).tried(rows)
        Machine(image_of(flow, order_of(flow), tuple(range(20)))).tried(rows)
        self.assertEqual(rows, kept)


if __name__ == "__main__":
    unittest.main()
