"""What holds for all functions: [2]."""

import unittest

from keepsgoing.clocksof import clocks_of
from keepsgoing.errors import GoingError
from keepsgoing.flatrings import check_rings, settle
from keepsgoing.flatten import flatten
from keepsgoing.flowruns import FlowRun
from keepsgoing.flows import hangs, is_flow, is_straight, knots_of, memory_of
from keepsgoing.kinds import fit, has, how_many, is_kind, values_of, zero
from keepsgoing.kindsof import kinds_of
from keepsgoing.naming import check_names
from keepsgoing.ops import result, result_kind
from keepsgoing.rates import one_beat, rate_of
from keepsgoing.reading import read_program
from keepsgoing.starts import check_starts, grades_of, is_started
from keepsgoing.tokens import tokens_of
from keepsgoing.treeruns import ProgramRun
from keepsgoing.writing import write_expr, write_kind, write_program
from tests.randomflows import random_flow, random_rows
from tests.randomprograms import random_program
from tests.randomprograms import random_rows as program_rows

BOOL = ("bool",)
NUM = ("num", -3, 4, 2, "wrap")


def is_plain(thing):
    """Nested tuples of integers, strings and None, without True and False."""
    if type(thing) is tuple:
        return all(is_plain(part) for part in thing)
    return thing is None or type(thing) in (int, str)


def told(call):
    try:
        return call()
    except GoingError as error:
        return type(error).__name__, tuple(sorted(vars(error).items()))


def calls():
    """Calls of all functions, each with the shape of its answer."""
    text, kinds = random_program(0)
    program = read_program(text)
    flat = flatten(program)
    flow = random_flow(1, 30)
    rows = random_rows(1, 5)
    flat_rows = program_rows(0, kinds, 5)
    a = ("name", "a")
    plain = [
        lambda: values_of(NUM), lambda: how_many(NUM), lambda: zero(NUM), lambda: fit(NUM, 77),
        lambda: values_of(("row", NUM, 6)), lambda: result_kind("add", (NUM, NUM)),
        lambda: result_kind("add", (NUM, BOOL)), lambda: result("lt", (NUM, NUM), (1, 2)),
        lambda: result("eq", (("row", BOOL, 2),) * 2, ((0, 1), (0, 1))),
        lambda: result("row", (NUM, NUM), (1, 2)), lambda: tokens_of(text),
        lambda: read_program(text), lambda: read_program(text[:500]),
        lambda: write_program(program), lambda: write_expr(("add", a, a)), lambda: write_kind(NUM),
        lambda: check_names(program), lambda: flatten(program), lambda: kinds_of(flat),
        lambda: clocks_of(flat), lambda: grades_of(flat), lambda: check_rings(flat),
        lambda: check_starts(flat), lambda: rate_of((("every", 3, 1, None),)),
        lambda: settle(("x",), (("and", a, ("name", "x")),), (a,), (1,)),
        lambda: hangs(flow, 3), lambda: knots_of(flow), lambda: memory_of(flow),
        lambda: tuple(FlowRun(flow).ticks(rows)), lambda: FlowRun(flow).state,
        lambda: FlowRun(flow).tried(rows), lambda: tuple(ProgramRun(program).ticks(flat_rows))]
    bools = [
        lambda: is_kind(NUM), lambda: is_kind(("bool", 3)), lambda: is_kind(("mode", ())),
        lambda: has(NUM, 3), lambda: has(NUM, None), lambda: has(("row", BOOL, 2), (0, 1)),
        lambda: is_flow(flow), lambda: is_flow(flow[:2] + ((),) + flow[3:]),
        lambda: is_straight(flow), lambda: is_started(flat), lambda: one_beat((), ())]
    return plain, bools


class Everywhere(unittest.TestCase):
    def test_equal_answers_in_any_order(self):
        plain, bools = calls()
        first = [told(call) for call in plain + bools]
        again = [told(call) for call in reversed(plain + bools)]
        self.assertEqual(first, list(reversed(again)))
        other = [told(call) for each in calls() for call in each]
        self.assertEqual(first, other)

    def test_answers_are_plain(self):
        plain, bools = calls()
        for call in plain:
            self.assertTrue(is_plain(told(call)), told(call))
        for call in bools:
            self.assertIs(type(call()), bool)

    def test_errors_change_nothing(self):
        program = read_program("unit u(a: bool) gives (x: bool) { x = a; }")
        before = flatten(program)
        for text in ("unit", "kind", "unit u(a: bool) gives (x: bool) { x = ; }"):
            with self.assertRaises(GoingError):
                read_program(text)
        with self.assertRaises(GoingError):
            check_names(read_program("unit u(a: bool) gives (x: bool) { x = b; }"))
        self.assertEqual(flatten(program), before)

    def test_judges_take_wrong_numbers_words_and_lengths(self):
        for thing in ((), ("num",), ("row", ("row",), -1), ("mode", (1, None)), ("num", None, (), "", 0)):
            self.assertIs(is_kind(thing), False)
        for thing in ((), ("flow",), ("flow", (), (), (), (), ()), ("flow", (), ((),), (), (), ()),
                      ("flow", (), (("add", BOOL, ((-5, 7),), -1),), (), (), ())):
            self.assertIs(is_flow(thing), False)


if __name__ == "__main__":
    unittest.main()
