"""The names and arguments of the interface, in the files under which it lists them."""

import importlib
import inspect
import unittest

FUNCTIONS = {
    "kinds": "is_kind(thing) has(kind,value) how_many(kind) values_of(kind) zero(kind) "
             "fit(kind,number)",
    "ops": "result_kind(op,kinds,told=None) result(op,kinds,values,told=None)",
    "flows": "is_flow(flow) hangs(flow,node) knots_of(flow) is_straight(flow) memory_of(flow)",
    "tokens": "tokens_of(text)",
    "reading": "read_program(text)",
    "writing": "write_program(program) write_expr(expr) write_kind(kind)",
    "naming": "check_names(program)",
    "flatten": "flatten(program)",
    "kindsof": "kinds_of(flat)",
    "clocksof": "clocks_of(flat)",
    "rates": "rate_of(clock) one_beat(clock,other)",
    "flatrings": "check_rings(flat) settle(names,exprs,parts,truths)",
    "starts": "grades_of(flat) check_starts(flat) is_started(flat)",
}
TICKING = {"tick": ["self", "row"], "ticks": ["self", "rows"]}
STATED = {"resume": ["self", "state"], "trial": ["self"], "tried": ["self", "rows"]}
CLASSES = {
    "flowruns": ("FlowRun", ["flow"], {**TICKING, **STATED}, ["state", "entries"]),
    "treeruns": ("ProgramRun", ["program"], TICKING, []),
}


class Interface(unittest.TestCase):
    def test_functions(self):
        for module, told in FUNCTIONS.items():
            file = importlib.import_module("keepsgoing." + module)
            for each in told.split(" "):
                name, arguments = each.rstrip(")").split("(")
                function = getattr(file, name)
                self.assertEqual(function.__module__, "keepsgoing." + module)
                self.assertTrue(inspect.isfunction(function))
                if "=" not in arguments:
                    got = list(inspect.signature(function).parameters)
                    self.assertEqual(got, arguments.split(","), name)
                else:
                    got = str(inspect.signature(function)).replace(" ", "")
                    self.assertEqual(got, f"({arguments})", name)

    def test_classes(self):
        for module, (name, arguments, methods, properties) in CLASSES.items():
            made = getattr(importlib.import_module("keepsgoing." + module), name)
            self.assertEqual(made.__module__, "keepsgoing." + module)
            self.assertEqual(list(inspect.signature(made).parameters), arguments)
            for method, told in methods.items():
                got = inspect.signature(vars(made)[method])
                self.assertEqual(list(got.parameters), told)
            self.assertTrue(inspect.isgeneratorfunction(vars(made)["ticks"]))
            for each in properties:
                self.assertIsInstance(vars(made)[each], property)

    def test_runs_without_a_state(self):
        run = importlib.import_module("keepsgoing.treeruns").ProgramRun
        for name in ("state", "resume", "trial", "tried"):
            self.assertFalse(hasattr(run, name))

    def test_errors(self):
        errors = importlib.import_module("keepsgoing.errors")
        for name in ("GoingError BadText NameFault CheckFault LimitFault NoLags Unknown Twice BadUse "
                     "BadNumber KindClash KindOpen ClockClash Ring Unsettled Unset TooLarge "
                     "TooMany").split(" "):
            self.assertEqual(getattr(errors, name).__module__, "keepsgoing.errors")


if __name__ == "__main__":
    unittest.main()
