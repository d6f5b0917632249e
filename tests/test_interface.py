"""The interface of the document: its names, each in its file, with its arguments."""

import importlib
import inspect
import unittest

FUNCTIONS = {
    "formulas": ("reads_of(formula)", "worth(formula, measure, x, y, numbers)"),
    "works": ("Works(measure, pictures, stages)",),
    "meaning": ("cell(works, given, name, x, y)", "picture(works, given, name, one)"),
    "rectangles": ("rectangle(left, top, right, bottom)", "moved(one, dx, dy)", "meet(one, other)", "hull(one, other)",
                   "within(one, other)", "many(one)", "without(one, other)"),
    "needs": ("needs(works, name, one)", "touched(works, name, one, other)", "chain(works, name, one, other, side)"),
    "plans": ("kept_reads(works, plan, reader)", "fault(works, name, plan)"),
    "rings": ("leads(works, name, one, plan)", "lost(works, name, one, plan, stage)"),
    "flat": ("flat(works, name, one, plan)", "room(works, name, one, plan)"),
    "machine": ("run(works, given, name, one, plan, deeds)", "made(works, given, name, one, plan)"),
    "costs": ("work(works, name, one, plan)", "cost(works, name, one, plan, price)"),
    "planner": ("best(works, name, one, price)",),
    "texts": ("works_shown(works)", "plan_shown(plan)", "works_read(text)", "plan_read(text)"),
    "desk": ("answer(text, plan_text, given, name, one)",),
}
METHODS = ("pictures(self)", "stages(self)", "size(self, picture)", "rim(self, picture)", "formula(self, stage)")


class Interface(unittest.TestCase):

    def assert_there(self, holder, told):
        name = told.partition("(")[0]
        self.assertEqual(name + str(inspect.signature(getattr(holder, name))), told)

    def test_functions_and_the_class(self):
        for module, functions in FUNCTIONS.items():
            for told in functions:
                self.assert_there(importlib.import_module(f"stripmill.{module}"), told)

    def test_methods(self):
        for told in METHODS:
            self.assert_there(importlib.import_module("stripmill.works").Works, told)


if __name__ == "__main__":
    unittest.main()
