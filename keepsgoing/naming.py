"""Looking for faults in the names of a program."""

from keepsgoing.errors import BadNumber, BadUse, Twice, Unknown
from keepsgoing.items import defined_in, machine_defines
from keepsgoing.namekinds import check_different, check_kind
from keepsgoing.nameexprs import check_expr
from keepsgoing.scopes import EVENT, IN, LOCAL, MACHINE, OUT, Scope
from keepsgoing.writing import expr_tokens

MOST_STATES = 8

# What must not stand in a turn.
BARRED = ("last", "then", "when", "held", "merge", "weave", "else", "fresh")


def check_names(program):
    """Raise the first fault in the names of a program."""
    meanings = {}
    for name, kind in program[1]:
        if name in meanings:
            raise Twice(name)
        meanings[name] = check_kind(kind, meanings)
    look = NameLook(meanings, program[2])
    for at in range(len(program[2])):
        look.check_unit(at)


class NameLook:
    """A look at the units of a program, one by one."""

    def __init__(self, meanings, units):
        self.meanings = meanings
        self.units = units
        self.sizes = {}

    def check_unit(self, at):
        """Look at the unit number at, behind those ahead of it."""
        _, name, ins, outs, items = self.units[at]
        if name in self.sizes:
            raise Twice(name)
        scope = Scope(None, items)
        for each, kind, event in ins:
            if event == 1 and at < len(self.units) - 1:
                raise BadUse(each)
            self._declare(scope, each, kind, EVENT if event == 1 else IN)
        for each, kind in outs:
            self._declare(scope, each, kind, OUT)
        self._check_scope(scope, None)
        self.sizes[name] = (len(ins), len(outs))

    def _declare(self, scope, name, kind, what):
        if kind is not None:
            check_kind(kind, self.meanings)
        if scope.what(name) is not None:
            raise Twice(name)
        scope.declare(name, what)

    def _check_scope(self, scope, wanted):
        """Look at a scope; wanted is what the machine defines, None for a unit."""
        for item in scope.items_here:
            if item[0] == "local":
                self._declare(scope, item[1], item[2], LOCAL)
            elif item[0] == "machine":
                self._declare(scope, item[1], None, MACHINE)
        _check_defined(scope)
        if wanted is not None:
            _check_wanted(scope, wanted)
        _check_all_defined(scope)
        for item in scope.items_here:
            self._check_item(item, scope)

    def _check_item(self, item, scope):
        if item[0] == "use":
            self._check_use(item, scope)
        elif item[0] == "machine":
            self._check_machine(item, scope)
        elif item[0] != "local":
            check_expr(item[-1], scope, self.meanings)

    def _check_use(self, item, scope):
        _, names, unit, args, every = item
        if unit not in self.sizes:
            raise Unknown(unit)
        ins, outs = self.sizes[unit]
        for arg in args:
            check_expr(arg, scope, self.meanings)
        if len(args) != ins:
            raise BadNumber(len(args))
        if len(names) != outs:
            raise BadNumber(len(names))
        if every is not None:
            check_expr(every, scope, self.meanings)

    def _check_machine(self, machine, scope):
        states = machine[2]
        if len(states) > MOST_STATES:
            raise BadNumber(len(states))
        names = [state[0] for state in states]
        check_different(names)
        wanted = machine_defines(machine)
        for _, unless, items, until in states:
            self._check_turns(unless, scope, names)
            inner = Scope(scope, items)
            self._check_scope(inner, wanted)
            self._check_turns(until, inner, names)

    def _check_turns(self, turns, scope, names):
        for expr, _, name in turns:
            check_expr(expr, scope, self.meanings)
            for word in expr_tokens(expr):
                if word in BARRED:
                    raise BadUse(word)
            if name not in names:
                raise Unknown(name)


def _check_defined(scope):
    for name in defined_in(scope.items_here):
        what = scope.what(name)
        if what is None:
            raise Unknown(name)
        if what not in (OUT, LOCAL):
            raise BadUse(name)
        if name in scope.defined:
            raise Twice(name)
        scope.define(name)


def _check_wanted(scope, wanted):
    for name in scope.defined:
        if name not in scope.declared and name not in wanted:
            raise BadUse(name)
    for name in wanted:
        if name not in scope.defined:
            raise BadUse(name)


def _check_all_defined(scope):
    for name in scope.declared:
        if scope.declared[name] in (OUT, LOCAL) and name not in scope.defined:
            raise BadUse(name)
