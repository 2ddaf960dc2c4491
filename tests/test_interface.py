"""The names and arguments of the interface, in the files under which it lists them."""

import importlib
import inspect
import unittest

FUNCTIONS = {
    "kinds": "is_kind(thing) has(kind,value) how_many(kind) values_of(kind) zero(kind) "
             "fit(kind,number)",
    "ops": "result_kind(op,kinds,told=None) result(op,kinds,values,told=None)",
    "flows": "is_flow(flow) hangs(flow,node) knots_of(flow) is_straight(flow) memory_of(flow)",
    "tokens": "tokens_of(text)",
    "reading": "read_program(text)",
    "writing": "write_program(program) write_expr(expr) write_kind(kind)",
    "naming": "check_names(program)",
    "flatten": "flatten(program)",
    "kindsof": "kinds_of(flat)",
    "clocksof": "clocks_of(flat)",
    "rates": "rate_of(clock) one_beat(clock,other)",
    "flatrings": "check_rings(flat) settle(names,exprs,parts,truths)",
    "starts": "grades_of(flat) check_starts(flat) is_started(flat)",
    "checking": "checked(flat)",
    "flatruns": "lasts_of(flat)",
    "flowof": "flow_of(flat)",
    "knots": "settles(flow,knot) entering(flow,knot) judge_knots(flow)",
    "opening": "opened(flow)",
    "orders": "judge_order(flow,order) order_of(flow)",
    "traces": "trace_of(flow,rows) blame(flow,rows,trace)",
    "classes": "judge_classes(flow,paper) merged(flow,paper)",
    "alike": "alike(flow)",
    "steady": "judge_steady(flow,paper) settled(flow,paper) steady(flow)",
    "improving": "needed(flow) swept(flow) improved(flow)",
    "seats": "lives(flow,order) judge_seats(flow,order,seating) seats_of(flow,order)",
    "images": "is_image(image)",
    "imageof": "image_of(flow,order,seating)",
    "bills": "bill(code) dear_way(code)",
    "phases": "period(flow) phase_bills(flow,image) account(flow,image)",
    "splits": "foreign(flow,split,controller) crossing(flow,split) early(flow,node)",
    "buses": "judge_bus(flow,split,bus) frame_ticks(flow,split,bus,node,controller) "
             "plain_bus(flow,split,spans)",
    "lags": "judge_lags(flow,split,bus,lags) least_lags(flow,split,bus)",
    "parts": "parts_of(flow,split)",
    "deciding": "rows_of(flow) decided(flow,most) judge_closed(flow,states)",
    "sayings": "judge_sayings(flow,depth,paper)",
    "family": "family(flow) greatest(flow) surely_kept(flow)",
    "boxes": "alone(program,name) boxed(program) unit_by_unit(program,most)",
    "touching": "touched(flow,seeds,cells,many,*,lasts=False) gone(flow,cells)",
    "healing": "healing(flow,most) judge_never(flow,answer)",
    "tripling": "tripled(flow)",
    "carrying": "judge_carry(old,new,paper) carried(old,new,paper,state) carry_of(old,new)",
    "changing": "seen_change(old,new,paper,most) judge_pairs(old,new,paper,pairs) "
                "kept_on(old,new,paper,most)",
    "make": "made(text,*,improve=1,share=1) verdict(text,most)",
}
TICKING = {"tick": ["self", "row"], "ticks": ["self", "rows"]}
STATED = {"resume": ["self", "state"], "trial": ["self"], "tried": ["self", "rows"]}
CLASSES = [
    ("flowruns", "FlowRun", "(flow)", {**TICKING, **STATED}, ["state", "entries"]),
    ("treeruns", "ProgramRun", "(program)", TICKING, []),
    ("flatruns", "FlatRun", "(flat,fillings=())", TICKING, []),
    ("knotruns", "KnotRun", "(flow)", {**TICKING, **STATED}, ["state"]),
    ("orderruns", "OrderRun", "(flow,order)", {**TICKING, **STATED}, ["state"]),
    ("machine", "Machine", "(image)", {**TICKING, **STATED, "spoil": ["self", "cells"]},
     ["state", "steps", "total", "cells"]),
    ("splitruns", "SplitRun", "(flow,split,bus,lags)", TICKING, []),
    ("splitruns", "LossyRun", "(flow,split,bus,lags,losses)", TICKING, []),
    ("changing", "ChangedRun", "(old,new,paper,at)", TICKING, []),
]


class Interface(unittest.TestCase):
    def test_functions(self):
        for module, told in FUNCTIONS.items():
            file = importlib.import_module("keepsgoing." + module)
            for each in told.split(" "):
                name, arguments = each.rstrip(")").split("(")
                function = getattr(file, name)
                self.assertEqual(function.__module__, "keepsgoing." + module)
                self.assertTrue(inspect.isfunction(function))
                if "=" not in arguments:
                    got = list(inspect.signature(function).parameters)
                    self.assertEqual(got, arguments.split(","), name)
                else:
                    got = str(inspect.signature(function)).replace(" ", "")
                    self.assertEqual(got, f"({arguments})", name)

    def test_classes(self):
        for module, name, arguments, methods, properties in CLASSES:
            made = getattr(importlib.import_module("keepsgoing." + module), name)
            self.assertEqual(made.__module__, "keepsgoing." + module)
            self.assertEqual(str(inspect.signature(made)).replace(" ", ""), arguments)
            for method, told in methods.items():
                got = inspect.signature(vars(made)[method])
                self.assertEqual(list(got.parameters), told)
            self.assertTrue(inspect.isgeneratorfunction(vars(made)["ticks"]))
            for each in properties:
                self.assertIsInstance(vars(made)[each], property)

    def test_class_method(self):
        made = importlib.import_module("keepsgoing.machine").Machine
        self.assertIsInstance(vars(made)["of"], classmethod)
        self.assertEqual(list(inspect.signature(made.of).parameters), ["made"])

    def test_runs_without_a_state(self):
        for module, name, _, methods, _ in CLASSES:
            run = getattr(importlib.import_module("keepsgoing." + module), name)
            for each in ("state", "resume", "trial", "tried"):
                self.assertIs(hasattr(run, each), "resume" in methods, name)

    def test_errors(self):
        errors = importlib.import_module("keepsgoing.errors")
        for name in ("GoingError BadText NameFault CheckFault LimitFault NoLags Unknown Twice BadUse "
                     "BadNumber KindClash KindOpen ClockClash Ring Unsettled Unset TooLarge "
                     "TooMany").split(" "):
            self.assertEqual(getattr(errors, name).__module__, "keepsgoing.errors")


if __name__ == "__main__":
    unittest.main()
