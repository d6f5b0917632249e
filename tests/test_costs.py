"""Point 21: how often each formula is worked out, and what a plan costs."""

import copy
import time
import unittest

from stripmill.costs import cost, work
from stripmill.errors import BadPlan, NoStage
from stripmill.works import Works

X = ("x",)


def read(name, dx=0, dy=0):
    return ("read", name, dx, dy)


def sum_of(formulas):
    """Halves of halves, so that it stays flat."""
    if len(formulas) == 1:
        return formulas[0]
    half = len(formulas) // 2
    return ("sum", sum_of(formulas[:half]), sum_of(formulas[half:]))


def works_of(*stages):
    return Works(10, [("base", 4, 4, 0)], list(stages))


def plan_of(text):
    """From "a in, b whole" the pairs."""
    return [tuple(pair.split()) for pair in text.split(", ")] if text else []


def blur(name):
    return ("sum", read(name, -1, -1), read(name, 2, 1))


def blurs():
    """For c's (0, 0, 3, 2) of b (-1, -1, 5, 3) is needed, of a (-2, -2, 7, 4): 6, 24 and 54 cells."""
    return works_of(("a", blur("base")), ("b", blur("a")), ("c", blur("b")))


ONE = (0, 0, 3, 2)


class Work(unittest.TestCase):

    def assert_work(self, works, name, one, plan, counts):
        """The counts in order, for the stages up to the asked one."""
        pairs = plan_of(plan)
        before = copy.deepcopy(pairs)
        names = works.stages()[:works.stages().index(name) + 1]
        self.assertEqual(work(works, name, one, pairs), list(zip(names, counts, strict=True)))
        self.assertEqual(pairs, before)

    def test_the_asked_one_alone(self):
        self.assert_work(blurs(), "a", ONE, "", [6])
        self.assert_work(blurs(), "a", (-60, 99, -59, 100), "", [1])
        self.assert_work(works_of(("a", X)), "a", (-5, -5, 15, 15), "", [400])

    def test_whole_stages_and_strips_are_worked_out_once_in_each_needed_cell(self):
        for plan in ("a whole, b whole", "a strip, b strip", "a whole, b strip"):
            self.assert_work(blurs(), "c", ONE, plan, [54, 24, 6])

    def test_stages_in_place_are_worked_out_as_often_as_they_are_read(self):
        self.assert_work(blurs(), "c", ONE, "a in, b in", [24, 12, 6])
        for way in ("whole", "strip"):
            self.assert_work(blurs(), "c", ONE, f"a in, b {way}", [48, 24, 6])
            self.assert_work(blurs(), "c", ONE, f"a {way}, b in", [54, 12, 6])

    def test_stages_in_place_with_several_readers_and_through_one_another(self):
        works = works_of(("a", X), ("b", ("sum", read("a"), read("a", 1))), ("c", ("sum", read("a", 0, 1), read("b"))),
                         ("d", sum_of([read("a"), read("b", 1, 1), read("c")])))
        cell = (0, 0, 1, 1)
        # c once, b by c and d, a twice by each b, and by c and d.
        self.assert_work(works, "d", cell, "a in, b in, c in", [6, 2, 1, 1])
        self.assert_work(works, "d", (0, 0, 4, 5), "a in, b in, c in", [120, 40, 20, 20])
        # b's cells (0, 0) and (1, 1) lie in a square of four.
        self.assert_work(works, "d", cell, "a in, b whole, c in", [10, 4, 1, 1])
        self.assert_work(works, "d", cell, "a in, b strip, c strip", [10, 4, 1, 1])
        self.assert_work(works, "d", cell, "a in, b in, c whole", [6, 2, 1, 1])
        # Of a the columns from 0 to 2 and the rows 0 and 1 are needed.
        self.assert_work(works, "d", cell, "a whole, b in, c in", [6, 2, 1, 1])
        self.assert_work(works, "d", cell, "a strip, b in, c strip", [6, 2, 1, 1])

    def test_alike_reads_count_each(self):
        works = works_of(("a", X), ("b", sum_of([read("a")] * 3)), ("c", ("times", read("b", 1), read("b", 1))))
        self.assert_work(works, "c", ONE, "a in, b in", [36, 12, 6])
        self.assert_work(works, "c", ONE, "a in, b whole", [18, 6, 6])
        self.assert_work(works, "c", ONE, "a whole, b in", [6, 12, 6])

    def test_reads_that_a_pick_does_not_take_count_too(self):
        nought = ("number", 0)
        works = works_of(("a", X), ("b", X), ("c", ("pick", nought, read("a"), read("b"))))
        self.assert_work(works, "c", ONE, "a in, b in", [6, 6, 6])
        works = works_of(("a", X), ("b", X), ("c", ("pick", read("a"), read("b"), nought)))
        self.assert_work(works, "c", ONE, "a in, b in", [6, 6, 6])

    def test_cells_of_the_needed_rectangle_that_nothing_touches(self):
        works = works_of(("a", X), ("b", read("a")), ("c", ("sum", read("b", -2, -2), read("b", 2, 2))))
        cell = (0, 0, 1, 1)
        self.assert_work(works, "c", cell, "a in, b in", [2, 2, 1])
        for way in ("whole", "strip"):
            self.assert_work(works, "c", cell, f"a in, b {way}", [25, 25, 1])
            self.assert_work(works, "c", cell, f"a {way}, b in", [25, 2, 1])

    def test_stages_that_are_not_touched(self):
        works = works_of(("a", X), ("far", X), ("lone", ("sum", read("a"), read("far"))), ("b", read("a", 1)),
                         ("c", ("sum", read("a"), read("b"))), ("low", ("sum", read("a"), read("lone"))))
        for far in ("in", "whole", "strip"):
            for lone in ("in", "strip"):
                self.assert_work(works, "c", ONE, f"a in, far {far}, lone {lone}, b in", [12, 0, 0, 6, 6])
                # a is needed from 0 to 4, b's reads being one to the right.
                self.assert_work(works, "c", ONE, f"a strip, far {far}, lone {lone}, b in", [8, 0, 0, 6, 6])
            self.assert_work(works, "far", ONE, f"a {far}", [0, 6])
        self.assert_work(works, "c", ONE, "a whole, far whole, lone whole, b whole", [8, 0, 0, 6, 6])

    def test_stages_in_place_that_nothing_asks_for_may_have_far_too_many_reads(self):
        rows = [("a", sum_of([read("base")] * 30))]
        for above, name in zip("abcdef", "bcdefg"):
            rows.append((name, sum_of([read(above)] * 30)))
        works = works_of(*rows, ("h", X))
        start = time.process_time()
        self.assert_work(works, "h", ONE, "a in, b in, c in, d in, e in, f in, g in", [0] * 7 + [6])
        self.assertLess(time.process_time() - start, 10)

    def test_as_many_askings_as_there_may_be(self):
        works = works_of(("a", sum_of([read("base")] * 29)), ("b", sum_of([read("a")] * 10)))
        # 10 + 10 * 29 are just 300.
        self.assert_work(works, "b", (0, 0, 20, 20), "a in", [4000, 400])

    def test_kinds_and_that_the_told_is_the_askers_own(self):
        works, plan = blurs(), plan_of("a whole, b in")
        told = work(works, "c", ONE, plan)
        self.assertIs(type(told), list)
        self.assertTrue(all(type(pair) is tuple for pair in told))
        kept = list(told)
        told.clear()
        self.assertEqual(work(works, "c", ONE, plan), kept)
        plan.clear()
        self.assertEqual(kept, [("a", 54), ("b", 12), ("c", 6)])


class Cost(unittest.TestCase):

    def assert_cost(self, works, name, one, plan, counts, boxes):
        """The sum of the counts, and the number of boxes."""
        pairs = plan_of(plan)
        before = copy.deepcopy(pairs)
        for price in (0, 1, 2, 999, 1000):
            told = cost(works, name, one, pairs, price)
            self.assertEqual(told, counts + price * boxes, price)
            self.assertIs(type(told), int)
        self.assertEqual(pairs, before)

    def test_without_boxes(self):
        self.assert_cost(blurs(), "a", ONE, "", 6, 0)
        self.assert_cost(blurs(), "c", ONE, "a in, b in", 42, 0)

    def test_boxes_of_whole_stages_and_strips(self):
        self.assert_cost(blurs(), "c", ONE, "a whole, b whole", 84, 54 + 24)
        # The rings have three rows each, but five where c reads a by way of b.
        self.assert_cost(blurs(), "c", ONE, "a strip, b strip", 84, 3 * 9 + 3 * 6)
        self.assert_cost(blurs(), "c", ONE, "a whole, b strip", 84, 54 + 3 * 6)
        self.assert_cost(blurs(), "c", ONE, "a strip, b in", 72, 5 * 9)
        self.assert_cost(blurs(), "c", ONE, "a in, b strip", 78, 3 * 6)

    def test_one_box(self):
        works = works_of(("a", X), ("b", read("a", 3, -3)))
        for way in ("whole", "strip"):
            self.assert_cost(works, "b", (0, 0, 1, 1), f"a {way}", 2, 1)

    def test_no_boxes_for_stages_that_are_not_touched(self):
        works = works_of(("a", X), ("lone", read("a")), ("b", read("a", 1)), ("low", read("b")))
        for way in ("in", "whole", "strip"):
            self.assert_cost(works, "b", ONE, f"a in, lone {way}", 12, 0)
        self.assert_cost(works, "b", ONE, "a strip, lone strip", 12, 3)


class Refusals(unittest.TestCase):

    def test_no_stage_then_bad_plan(self):
        asks = (work, lambda works, name, one, plan: cost(works, name, one, plan, 1))
        for ask in asks:
            for plan in ("", "a in", "a keep, b in", "a strip, b whole", "b in, a in", "a in, b in, c in"):
                for name in ("nothing", "base", ""):
                    self.assertRaises(NoStage, ask, blurs(), name, ONE, plan_of(plan))
                self.assertRaises(BadPlan, ask, blurs(), "c", ONE, plan_of(plan))
            self.assertRaises(BadPlan, ask, blurs(), "a", ONE, plan_of("a in"))

    def test_a_plan_with_too_many_askings(self):
        works = works_of(("a", sum_of([read("base")] * 30)), ("b", sum_of([read("a")] * 10)))
        self.assertRaises(BadPlan, work, works, "b", ONE, plan_of("a in"))
        self.assertRaises(BadPlan, cost, works, "b", ONE, plan_of("a in"), 0)
        self.assertEqual(cost(works, "b", ONE, plan_of("a whole"), 0), 12)


if __name__ == "__main__":
    unittest.main()
