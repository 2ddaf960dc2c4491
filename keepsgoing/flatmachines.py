"""What a machine becomes in a flat program, without what stands in its states."""

from keepsgoing.flatexprs import NO, YES, flat_expr
from keepsgoing.items import machine_defines
from keepsgoing.kinds import BOOL
from keepsgoing.places import state_place


class FlatMachine:
    """A machine at a place, with its flat name, its states as values and their places."""

    def __init__(self, machine, place):
        _, name, states = machine
        names = tuple([state[0] for state in states])
        self.place = place
        self.states = states
        self.name = place.flat_name(name)
        self.mode = ("mode", names)
        self.marks = [("mode", names, at) for at in range(len(names))]
        self.numbers = {each: at for at, each in enumerate(names)}
        self.defines = machine_defines(machine)
        self.inner = [
            state_place(place, state, self.name + "." + state[0], self._layer(at))
            for at, state in enumerate(states)
        ]

    def _layer(self, at):
        return ("is", self.name + "@now", self.marks[at])

    def _equation(self, word, kind, expr):
        return (self.name + word, kind, self.place.home, 1, expr)

    def _kept(self, first, word):
        resets = self.place.resets
        return ("then", first, ("last", ("name", self.name + word), resets), resets)

    def equations_before(self):
        """Return the equations that stand ahead of the states."""
        marked = [self._marked(state[1], self.place, at) for at, state in enumerate(self.states)]
        goes_on = ("name", self.name + "@fresh")
        told = [_truths(state[1], self.place, goes_on) for state in self.states]
        return [
            self._equation("@at", self.mode, self._kept(self.marks[0], "@next")),
            self._equation("@fresh", BOOL, self._kept(NO, "@goes")),
            self._equation("@now", self.mode, self._by_state(marked)),
            self._equation("@new", BOOL, self._by_state(told)),
        ]

    def _by_state(self, choices):
        expr = choices[-1]
        for at in reversed(range(len(choices) - 1)):
            test = ("eq", ("name", self.name + "@at"), self.marks[at])
            expr = ("pick", test, choices[at], expr)
        return expr

    def _marked(self, turns, place, at):
        expr = self.marks[at]
        for test, _, name in reversed(turns):
            expr = ("pick", flat_expr(test, place), self.marks[self.numbers[name]], expr)
        return expr

    def equations_within(self, at):
        """Return the equations that stand ahead of what is in the state number at."""
        place = self.inner[at]
        now = ("name", self.name + "@now")
        anew = ("and", ("eq", now, self.marks[at]), ("name", self.name + "@new"))
        return [
            (place.home, BOOL, self.place.home, 0, ("when", YES, self._layer(at))),
            (place.resets[-1], BOOL, self.place.home, 1, anew),
        ]

    def equations_behind(self):
        """Return the equations that stand behind the states."""
        untils = [state[3] for state in self.states]
        marked = [self._marked(turns, self.inner[at], at) for at, turns in enumerate(untils)]
        told = [_truths(turns, self.inner[at], NO) for at, turns in enumerate(untils)]
        found = [
            self._equation("@next", self.mode, self._merged(marked)),
            self._equation("@goes", BOOL, self._merged(told)),
        ]
        for name in self.defines:
            arms = [("name", inner.flat_name(name)) for inner in self.inner]
            found.append(defining(self.place, name, self._merged(arms)))
        return found

    def _merged(self, arms):
        return ("merge", self.name + "@now", tuple(zip(self.marks, arms)))


def _truths(turns, place, expr):
    for test, how, _ in reversed(turns):
        expr = ("pick", flat_expr(test, place), YES if how == "go" else NO, expr)
    return expr


def defining(place, name, expr):
    """Return the equation by which a scope defines a name."""
    flat = place.flat_name(name)
    return (flat, place.kind_told(name), place.home, place.tied(name), expr)
