"""Point 22: the plan that costs least."""

import itertools
import random
import time
import unittest

from stripmill.costs import cost
from stripmill.errors import NoStage
from stripmill.machine import made
from stripmill.meaning import picture
from stripmill.plans import fault
from stripmill.planner import best
from stripmill.works import Works

X = ("x",)
ONE = (0, 0, 3, 2)


def read(name, dx=0, dy=0):
    return ("read", name, dx, dy)


def sum_of(formulas):
    """Halves of halves, so that it stays flat."""
    if len(formulas) == 1:
        return formulas[0]
    half = len(formulas) // 2
    return ("sum", sum_of(formulas[:half]), sum_of(formulas[half:]))


def works_of(*stages):
    return Works(10, [("base", 4, 4, 0)], list(stages))


def plan_of(text):
    """From "a in, b whole" the pairs."""
    return [tuple(pair.split()) for pair in text.split(", ")] if text else []


def blurs():
    return works_of(*[(name, ("sum", read(above, -1, -1), read(above, 2, 1)))
                      for above, name in (("base", "a"), ("a", "b"), ("b", "c"))])


def one_by_one(works, name, one, price):
    """The pair by looking at all plans in the told order, and how many of them cost as little."""
    above = works.stages()[:works.stages().index(name)]
    found = []
    for ways in itertools.product(("in", "whole", "strip"), repeat=len(above)):
        plan = list(zip(above, ways))
        if fault(works, name, plan) is None:
            found.append((plan, cost(works, name, one, plan, price)))
    least = min(plan_cost for plan, plan_cost in found)
    cheap = [pair for pair in found if pair[1] == least]
    return cheap[0], len(cheap)


def chance_works(chance, stages, most_reads):
    names, rows = ["base", "a", "b", "c", "d", "e", "f", "g", "h"], []
    for place in range(1, stages + 1):
        reads = [read(chance.choice(names[:place][-3:]), chance.randint(-3, 3), chance.randint(-3, 3))
                 for count in range(chance.randint(0, most_reads))]
        rows.append((names[place], sum_of(reads + [X])))
    return works_of(*rows), names[stages]


class Best(unittest.TestCase):

    def assert_best(self, works, name, price, plan, plan_cost, one=ONE):
        self.assertEqual(best(works, name, one, price), (plan_of(plan), plan_cost))
        self.assertEqual(one_by_one(works, name, one, price)[0], (plan_of(plan), plan_cost))

    def test_none_above(self):
        for price in (0, 1, 1000):
            self.assert_best(blurs(), "a", price, "", 6)

    def test_the_least_of_all(self):
        # In place 42; b kept as a strip 78 and 18 boxes: too dear here.
        for price in (0, 1, 1000):
            self.assert_best(blurs(), "c", price, "a in, b in", 42)

    def test_by_the_price_of_a_box(self):
        works = works_of(("a", X), ("b", sum_of([read("a")] * 6)), ("c", sum_of([read("b", 0, dy) for dy in (-1, 0, 1)])))
        one = (0, 0, 4, 10)
        # 40 cells of c are worked out, 48 of b, 48 of a; for nothing boxes are as many as you like.
        self.assert_best(works, "c", 0, "a whole, b whole", 136, one)
        # The ring of a has one row of four, that of b three rows.
        self.assert_best(works, "c", 1, "a strip, b strip", 136 + 16, one)
        self.assert_best(works, "c", 17, "a strip, b strip", 136 + 16 * 17, one)
        # With b in place, 120 times, the ring of a has three rows: at 18 both cost as little, and "in" stands ahead.
        self.assert_best(works, "c", 18, "a strip, b in", 208 + 12 * 18, one)
        self.assert_best(works, "c", 55, "a strip, b in", 208 + 12 * 55, one)
        # Without a box a is worked out 720 times: at 56 that costs as little.
        self.assert_best(works, "c", 56, "a in, b in", 880, one)
        self.assert_best(works, "c", 1000, "a in, b in", 880, one)

    def test_whole_ahead_of_strip_where_both_cost_as_little(self):
        works = works_of(("a", X), ("b", sum_of([read("a")] * 5)))
        # One row is needed: a strip has as many boxes.
        self.assert_best(works, "b", 1, "a whole", 1 + 1 + 1, (0, 0, 1, 1))
        self.assert_best(works, "b", 1, "a strip", 2 + 2 + 1, (0, 0, 1, 2))
        # Boxes cost nothing: then it is whole again.
        self.assert_best(works, "b", 0, "a whole", 4, (0, 0, 1, 2))

    def test_in_ahead_of_both_where_all_cost_as_little(self):
        works = works_of(("a", X), ("b", read("a", 3, 3)))
        self.assert_best(works, "b", 0, "a in", 12)
        # Twice read is as dear as once made and a box.
        works = works_of(("a", X), ("b", sum_of([read("a")] * 2)))
        self.assert_best(works, "b", 1, "a in", 3, (0, 0, 1, 1))

    def test_the_first_way_that_differs_is_that_of_the_first_stage(self):
        # Either a or b is worth keeping, not both: a in ahead of b in.
        works = works_of(("a", X), ("b", read("a")), ("c", sum_of([read("b")] * 3)))
        # a in, b whole: 3 and a box; a whole, b in: 1 + 3 + 1 and a box.
        self.assert_best(works, "c", 1, "a in, b whole", 4, (0, 0, 1, 1))
        works = works_of(("a", X), ("b", X), ("c", sum_of([read("a"), read("b")] * 2)))
        # Each of both costs 2 in place, and as much kept.
        self.assert_best(works, "c", 1, "a in, b in", 5, (0, 0, 1, 1))
        self.assert_best(works, "c", 0, "a whole, b whole", 3, (0, 0, 1, 1))

    def test_stages_that_are_not_touched_are_in_place(self):
        works = works_of(("a", X), ("lone", sum_of([read("a")] * 3)), ("b", sum_of([read("a")] * 3)), ("c", read("b")))
        self.assert_best(works, "b", 0, "a whole, lone in", 12)
        self.assert_best(works, "b", 1000, "a in, lone in", 24)
        self.assert_best(works, "lone", 0, "a whole", 12)

    def test_plans_with_a_fault_are_passed_over(self):
        # b whole reads a, which then may not be a strip; a in would cost least, but has too many askings.
        many_reads = [read("base")] * 29
        works = works_of(("a", sum_of(many_reads)), ("b", sum_of([read("a")] * 11)), ("c", read("b")))
        self.assertEqual(fault(works, "c", plan_of("a in, b in")), ("big", "c"))
        self.assertEqual(fault(works, "c", plan_of("a in, b strip")), ("big", "b"))
        self.assert_best(works, "c", 1000, "a whole, b in", 3 + 1000, (0, 0, 1, 1))
        self.assert_best(works, "c", 1000, "a strip, b in", 6 + 1000, (0, 0, 1, 2))
        # A stage that is not touched has its askings too.
        works = works_of(("a", sum_of(many_reads)), ("lone", sum_of([read("a")] * 11)), ("b", read("a")))
        self.assert_best(works, "b", 1, "a in, lone in", 2, (0, 0, 1, 1))

    def test_against_all_plans_one_by_one(self):
        chance, ties = random.Random(22), 0
        for turn in range(60):
            works, name = chance_works(chance, chance.randint(1, 5), chance.choice((2, 3, 5, 12)))
            one = (0, 0, chance.randint(1, 4), chance.randint(1, 8))
            for price in (0, 1, chance.randint(2, 20), 1000):
                wanted, alike = one_by_one(works, name, one, price)
                self.assertEqual(best(works, name, one, price), wanted, (turn, price))
                ties += alike > 1
        self.assertGreater(ties, 20)

    def test_six_above_against_all_plans_one_by_one(self):
        chance = random.Random(6)
        for price in (0, 1, 7, 1000):
            works, name = chance_works(chance, 7, 4)
            self.assertEqual(best(works, name, ONE, price), one_by_one(works, name, ONE, price)[0])

    def test_six_above_with_as_many_reads_and_cells_as_there_may_be(self):
        chance = random.Random(60)
        rows, names = [], ["base"]
        for name in "abcdefg":
            rows.append((name, sum_of([read(chance.choice(names), chance.randint(-3, 3), chance.randint(-3, 3))
                                       for count in range(30)])))
            names.append(name)
        works, one = works_of(*rows), (-60, -60, -40, -40)
        start = time.process_time()
        plan, plan_cost = best(works, "g", one, 3)
        self.assertLess(time.process_time() - start, 10)
        self.assertIsNone(fault(works, "g", plan))
        self.assertEqual(plan_cost, cost(works, "g", one, plan, 3))

    def test_the_picture_is_the_same(self):
        chance = random.Random(20)
        given = {"base": [[chance.randint(0, 99) for x in range(4)] for y in range(4)]}
        for turn in range(20):
            works, name = chance_works(chance, 5, 4)
            for price in (0, 2, 1000):
                plan = best(works, name, ONE, price)[0]
                self.assertEqual(made(works, given, name, ONE, plan), picture(works, given, name, ONE))

    def test_kinds_and_that_the_told_is_the_askers_own(self):
        works = blurs()
        told = best(works, "c", ONE, 1)
        self.assertIs(type(told), tuple)
        self.assertIs(type(told[0]), list)
        self.assertTrue(all(type(pair) is tuple for pair in told[0]))
        self.assertIs(type(told[1]), int)
        told[0].clear()
        self.assertEqual(best(works, "c", ONE, 1), (plan_of("a in, b in"), 42))

    def test_refused_with_no_stage(self):
        for name in ("nothing", "base", "", "C"):
            for price in (0, 1000):
                self.assertRaises(NoStage, best, blurs(), name, ONE, price)


if __name__ == "__main__":
    unittest.main()
