"""Flattening: from the tree of a program to its equations."""

from keepsgoing.errors import TooLarge
from keepsgoing.flatexprs import flat_expr
from keepsgoing.flatmachines import FlatMachine, defining
from keepsgoing.flatuses import add_box, add_ins, out_equations
from keepsgoing.kinds import BOOL
from keepsgoing.meanings import kind_names, meaning_of
from keepsgoing.places import unit_place

MOST_EQUATIONS = 300


def flatten(program):
    """Return the flat program of a program."""
    return laid_out(program)[0]


def laid_out(program):
    """Return the flat program, and its spans.

    A span `(name, first, end)` has the equations from first to the one ahead of end, whose
    contents are put back to their beginning at a tick at which the name is there and 1.
    """
    work = Flattening(program)
    work.do_all(program[2][-1][4])
    return work.finished(), tuple(work.spans)


def flat_with(program, items):
    """Return the flat program with other items of the top, in which `box` stands for some `use`."""
    work = Flattening(program)
    work.do_all(items)
    return work.finished()


class Flattening:
    """The equations made so far, and the tasks that are left, the next one at the end.

    Tasks wait on a list, because units can be used within each other many times.
    """

    def __init__(self, program):
        self.top = program[2][-1]
        self.meanings = kind_names(program)
        self.units = {unit[1]: unit for unit in program[2]}
        self.eqs = []
        self.spans = []
        self.assumes = []
        self.keeps = []
        self.loose = []
        self.dues = []
        self.tasks = []

    def finished(self):
        """Return the flat program with all that has been made."""
        _, _, ins, outs, _ = self.top
        inputs = [(name, meaning_of(kind, self.meanings), event) for name, kind, event in ins]
        outputs = tuple([name for name, _ in outs])
        assumes, keeps = tuple(self.assumes + self.dues), tuple(self.keeps)
        return ("flat", tuple(inputs + self.loose), tuple(self.eqs), outputs, assumes, keeps)

    def do_all(self, items):
        """Make all equations of these items of the top."""
        self.put_items(unit_place(self.top, "", None, (), self.meanings), items)
        while self.tasks:
            word, place, thing = self.tasks.pop()
            do = DO[word]
            do(self, place, thing)

    def put_tasks(self, tasks):
        """Put off some tasks, the first one of which is done next."""
        self.tasks.extend(list(reversed(tasks)))

    def put_items(self, place, items):
        """Put off the items of a scope."""
        many = {"assume": 0, "keep": 0}
        tasks = []
        for item in items:
            if item[0] in many:
                name = f"{item[0]}@{many[item[0]]}"
                many[item[0]] += 1
                tasks.append((item[0], place, (name, item[1])))
            elif item[0] != "local":
                tasks.append((item[0], place, item))
        self.put_tasks(tasks)

    def add_equation(self, equation):
        """Make one equation."""
        if len(self.eqs) == MOST_EQUATIONS:
            raise TooLarge("flat")
        self.eqs.append(equation)

    def add_equations(self, equations):
        """Make some equations."""
        for equation in equations:
            self.add_equation(equation)


def _do_set(work, place, item):
    work.add_equation(defining(place, item[1], flat_expr(item[2], place)))


def _do_assume(work, place, thing):
    name = _add_claim(work, place, thing)
    if place.home is None:
        work.assumes.append(name)
    else:
        work.keeps.append(name)


def _do_keep(work, place, thing):
    work.keeps.append(_add_claim(work, place, thing))


def _add_claim(work, place, thing):
    name, expr = thing
    flat = place.flat_name(name)
    work.add_equation((flat, BOOL, place.home, 1, flat_expr(expr, place)))
    return flat


def _do_use(work, place, item):
    unit = work.units[item[2]]
    prefix = add_ins(work, place, item)
    every = item[4]
    resets = place.resets
    tasks = []
    if every is not None:
        reset = prefix + "@every"
        work.add_equation((reset, BOOL, place.home, 2, flat_expr(every, place)))
        resets = resets + (reset,)
        tasks.append(("span", place, (reset, len(work.eqs))))
    tasks.extend([("equation", place, each) for each in out_equations(work, place, item, prefix)])
    work.put_tasks(tasks)
    inner = unit_place(unit, prefix, prefix + unit[2][0][0], resets, work.meanings)
    work.put_items(inner, unit[4])


def _do_box(work, place, item):
    add_box(work, place, item)


def _do_equation(work, place, equation):
    work.add_equation(equation)


def _do_machine(work, place, item):
    machine = FlatMachine(item, place)
    work.add_equations(machine.equations_before())
    tasks = [("state", place, (machine, at)) for at in range(len(machine.states))]
    work.put_tasks(tasks + [("behind", place, machine)])


def _do_state(work, place, thing):
    machine, at = thing
    inner = machine.inner[at]
    work.add_equations(machine.equations_within(at))
    work.put_tasks([("span", inner, (inner.resets[-1], len(work.eqs)))])
    work.put_items(inner, machine.states[at][2])


def _do_behind(work, place, machine):
    work.add_equations(machine.equations_behind())


def _do_span(work, place, thing):
    name, first = thing
    work.spans.append((name, first, len(work.eqs)))


# What is done with a task, by its word.
DO = {
    "set": _do_set, "assume": _do_assume, "keep": _do_keep, "use": _do_use, "box": _do_box,
    "machine": _do_machine, "equation": _do_equation, "state": _do_state,
    "behind": _do_behind, "span": _do_span,
}
