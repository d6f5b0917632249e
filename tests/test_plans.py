"""Points 13 and 14: kept reads, askings, and what a plan fails by."""

import copy
import time
import unittest

from stripmill.errors import NoStage
from stripmill.plans import fault, kept_reads
from stripmill.works import Works

X = ("x",)


def read(name, dx=0, dy=0):
    return ("read", name, dx, dy)


def sum_of(formulas):
    """Halves of halves, so that it stays flat."""
    if len(formulas) == 1:
        return formulas[0]
    half = len(formulas) // 2
    return ("sum", sum_of(formulas[:half]), sum_of(formulas[half:]))


def works_of(*stages):
    return Works(10, [("base", 4, 4, 0), ("spare", 2, 2, 1)], list(stages))


def plan_of(text):
    """From "a in, b whole" the pairs."""
    return [tuple(pair.split()) for pair in text.split(", ")] if text else []


def three():
    return works_of(
        ("a", ("sum", read("base", -1, 0), read("base", 1, 0))),
        ("b", ("sum", read("a", 0, -1), read("a", 0, 2))),
        ("c", ("less", read("b", 1, 1), read("a"))),
    )


def chain_of(counts):
    """Stages a, b, .., each with so many reads of the one above."""
    stages, above = [], "base"
    for name, count in zip("abcdefgh", counts):
        stages.append((name, sum_of([read(above, place % 7 - 3, place // 7 - 3) for place in range(count)])))
        above = name
    return stages


class KeptReads(unittest.TestCase):

    def assert_reads(self, works, plan, reader, wanted):
        self.assertEqual(kept_reads(works, plan_of(plan), reader), wanted)

    def test_kept_stages_stand_as_they_are_read(self):
        for way in ("whole", "strip"):
            plan = f"a {way}, b {way}"
            self.assert_reads(three(), plan, "c", [("b", 1, 1), ("a", 0, 0)])
            self.assert_reads(three(), plan, "b", [("a", 0, -1), ("a", 0, 2)])
            self.assert_reads(three(), plan, "a", [("base", -1, 0), ("base", 1, 0)])

    def test_in_place_of_a_stage_stand_its_own_reads_moved(self):
        self.assert_reads(three(), "a in, b strip", "b", [
            ("base", -1, -1), ("base", 1, -1), ("base", -1, 2), ("base", 1, 2)])
        self.assert_reads(three(), "a in, b strip", "c", [("b", 1, 1), ("base", -1, 0), ("base", 1, 0)])
        self.assert_reads(three(), "a whole, b in", "c", [("a", 1, 0), ("a", 1, 3), ("a", 0, 0)])

    def test_in_place_through_one_another(self):
        self.assert_reads(three(), "a in, b in", "c", [
            ("base", 0, 0), ("base", 2, 0), ("base", 0, 3), ("base", 2, 3), ("base", -1, 0), ("base", 1, 0)])

    def test_moves_add_up_beyond_three(self):
        works = works_of(*[(name, read(above, 3, -3)) for name, above in zip("abcdefgh", ["base"] + list("abcdefg"))])
        plan = ", ".join(f"{name} in" for name in "abcdefg")
        self.assert_reads(works, plan, "h", [("base", 24, -24)])
        self.assert_reads(works, plan.replace("d in", "d strip"), "h", [("d", 12, -12)])
        self.assert_reads(works, plan.replace("d in", "d strip"), "d", [("base", 12, -12)])

    def test_alike_ones_stay(self):
        works = works_of(("a", sum_of([read("base", 1, 1), read("base", 1, 1)])),
                         ("b", sum_of([read("a"), read("base", 1, 1), read("a")])))
        self.assert_reads(works, "", "a", [("base", 1, 1)] * 2)
        self.assert_reads(works, "a in", "b", [("base", 1, 1)] * 5)
        self.assert_reads(works, "a whole", "b", [("a", 0, 0), ("base", 1, 1), ("a", 0, 0)])

    def test_alike_ones_by_different_ways(self):
        works = works_of(("a", read("base", 0, 1)), ("b", read("a", 0, 1)), ("c", sum_of([read("b"), read("a", 0, 1)])))
        self.assert_reads(works, "a in, b in", "c", [("base", 0, 2), ("base", 0, 2)])
        self.assert_reads(works, "a strip, b in", "c", [("a", 0, 1), ("a", 0, 1)])

    def test_a_stage_without_reads(self):
        works = works_of(("a", X), ("b", sum_of([read("base", 2, 0), read("a", 1, 1), read("spare")])))
        self.assert_reads(works, "", "a", [])
        self.assert_reads(works, "a in", "b", [("base", 2, 0), ("spare", 0, 0)])
        self.assert_reads(works, "a whole", "b", [("base", 2, 0), ("a", 1, 1), ("spare", 0, 0)])

    def test_reads_that_a_pick_does_not_take(self):
        works = works_of(("a", ("pick", ("number", 0), read("base", 1, 0), read("base", 2, 0))), ("b", read("a", 0, 1)))
        self.assert_reads(works, "a in", "b", [("base", 1, 1), ("base", 2, 1)])

    def test_a_plan_for_a_stage_that_is_not_the_last(self):
        self.assert_reads(three(), "a in", "b", [("base", -1, -1), ("base", 1, -1), ("base", -1, 2), ("base", 1, 2)])

    def test_stages_in_place_that_are_not_read_may_have_far_too_many(self):
        works = works_of(*chain_of([30] * 6), ("y", read("base", 1, 2)), ("z", sum_of([read("y", 0, 1), read("a")])))
        plan = "a whole, " + ", ".join(f"{name} in" for name in "bcdefy")
        start = time.process_time()
        self.assert_reads(works, plan, "z", [("base", 1, 3), ("a", 0, 0)])
        self.assertIsNone(fault(works, "z", plan_of(plan)))
        self.assertLess(time.process_time() - start, 10)

    def test_kinds_and_that_the_told_is_the_askers_own(self):
        works, plan = three(), plan_of("a in, b strip")
        told = kept_reads(works, plan, "c")
        self.assertIs(type(told), list)
        self.assertTrue(all(type(part) is tuple for part in told))
        kept = list(told)
        told.clear()
        self.assertEqual(kept_reads(works, plan, "c"), kept)
        self.assertEqual(plan, plan_of("a in, b strip"))


class Plan(unittest.TestCase):

    def assert_fault(self, works, name, plan, wanted):
        pairs = plan_of(plan)
        before = copy.deepcopy(pairs)
        self.assertEqual(fault(works, name, pairs), wanted)
        self.assertEqual(pairs, before)

    def test_none(self):
        self.assert_fault(three(), "a", "", None)
        for first in ("in", "whole", "strip"):
            self.assert_fault(three(), "b", f"a {first}", None)
        for plan in ("a in, b in", "a in, b whole", "a in, b strip", "a whole, b in", "a whole, b whole",
                     "a whole, b strip", "a strip, b in", "a strip, b strip"):
            self.assert_fault(three(), "c", plan, None)

    def test_pairs_left_out_put_twice_or_exchanged(self):
        for plan in ("", "a in", "b in", "a in, a in", "a in, a in, b in", "a in, b in, b in", "b in, a in",
                     "b in, b in", "a in, b in, a in"):
            self.assert_fault(three(), "c", plan, ("plan",))
        self.assert_fault(three(), "b", "", ("plan",))

    def test_pairs_of_others(self):
        for plan in ("a in, b in, c in", "a in, c in", "a in, nothing in", "base in, a in, b in", "a in, base in"):
            self.assert_fault(three(), "c", plan, ("plan",))
        self.assert_fault(three(), "a", "a in", ("plan",))
        self.assert_fault(three(), "b", "a in, b in", ("plan",))
        self.assert_fault(three(), "b", "a in, c in", ("plan",))

    def test_other_ways(self):
        for way in ("i", "inn", "In", "WHOLE", "strips", "keep", "a"):
            self.assert_fault(three(), "c", f"a {way}, b in", ("plan",))
            self.assert_fault(three(), "c", f"a in, b {way}", ("plan",))
        for pair in (("a", ""), ("", "in"), ("in", "a"), ("A", "in"), ("a", " in"), ("a ", "in")):
            self.assertEqual(fault(three(), "b", [pair]), ("plan",))

    def test_no_stage(self):
        for name in ("nothing", "base", "spare", "", "A"):
            for plan in ("", "a in, b in", "a keep"):
                with self.assertRaises(NoStage) as caught:
                    fault(three(), name, plan_of(plan))
                self.assertIs(type(caught.exception), NoStage)


class Big(unittest.TestCase):

    def two(self, above, below, besides=0):
        """b has reads of a, and of base; a has reads of base."""
        return works_of(("a", sum_of([read("base")] * above)),
                        ("b", sum_of([read("a")] * below + [read("base")] * besides)))

    def test_at_the_bound(self):
        self.assertIsNone(fault(self.two(11, 25), "b", [("a", "in")]))
        self.assertEqual(fault(self.two(11, 25, 1), "b", [("a", "in")]), ("big", "b"))
        self.assertEqual(fault(self.two(12, 25), "b", [("a", "in")]), ("big", "b"))
        self.assertEqual(fault(self.two(11, 26), "b", [("a", "in")]), ("big", "b"))

    def test_kept_stages_are_not_gone_into(self):
        for way in ("whole", "strip"):
            self.assertIsNone(fault(self.two(30, 30), "b", [("a", way)]))

    def test_a_read_of_a_stage_in_place_is_asked_itself(self):
        works = works_of(("a", X), ("b", sum_of([read("a")] * 30)),
                         ("c", sum_of([read("b")] * 9 + [read("a")] * 21)),
                         ("d", sum_of([read("b")] * 9 + [read("a")] * 22)))
        # 9 of b with 30 of a each, which have none: 9 + 270 + 21.
        self.assertIsNone(fault(works, "c", plan_of("a in, b in")))
        self.assertEqual(fault(works, "d", plan_of("a in, b in, c whole")), ("big", "d"))
        self.assertIsNone(fault(works, "c", plan_of("a whole, b in")))

    def test_through_several_stages(self):
        # 6 + 6 * (6 + 6 * 7): 6 + 36 + 252.
        works = works_of(*chain_of([7, 6, 6]), ("d", sum_of([read("c"), read("c"), read("base")])))
        self.assertIsNone(fault(works, "c", plan_of("a in, b in")))
        self.assertEqual(fault(works, "d", plan_of("a in, b in, c in")), ("big", "d"))
        self.assertIsNone(fault(works, "d", plan_of("a in, b in, c strip")))
        self.assertIsNone(fault(works, "d", plan_of("a in, b whole, c in")))

    def test_the_first_kept_one_the_asked_one_last(self):
        works = works_of(*chain_of([11, 26, 26, 1]), ("e", sum_of([read("b")] * 30)))
        self.assertEqual(fault(works, "e", plan_of("a in, b whole, c whole, d in")), ("big", "b"))
        self.assertEqual(fault(works, "e", plan_of("a whole, b in, c strip, d in")), ("big", "c"))
        self.assertEqual(fault(works, "e", plan_of("a in, b in, c in, d whole")), ("big", "d"))
        self.assertEqual(fault(works, "e", plan_of("a whole, b in, c in, d in")), ("big", "e"))
        self.assertEqual(fault(works, "c", plan_of("a in, b strip")), ("big", "b"))
        self.assertEqual(fault(works, "b", plan_of("a in")), ("big", "b"))

    def test_one_in_place_is_not_told_itself(self):
        works = works_of(*chain_of([11, 26]), ("c", read("a")), ("d", read("b")))
        self.assertIsNone(fault(works, "c", plan_of("a in, b in")))
        self.assertEqual(fault(works, "d", plan_of("a in, b in, c in")), ("big", "d"))

    def test_one_that_is_not_due_is_told_too(self):
        works = works_of(*chain_of([11, 26]), ("c", read("a")))
        self.assertEqual(fault(works, "c", plan_of("a in, b whole")), ("big", "b"))
        self.assertEqual(fault(works, "c", plan_of("a in, b strip")), ("big", "b"))

    def test_far_too_many_to_be_listed(self):
        works = works_of(*chain_of([30] * 8))
        start = time.process_time()
        ways = dict.fromkeys("abcdefg", "in")
        self.assertEqual(fault(works, "h", list(ways.items())), ("big", "h"))
        for name in "bcdefg":
            self.assertEqual(fault(works, "h", list({**ways, name: "strip"}.items())), ("big", name))
        self.assertLess(time.process_time() - start, 10)

    def test_behind_a_fault_of_the_plan(self):
        self.assertEqual(fault(self.two(30, 30), "b", [("a", "in"), ("a", "in")]), ("plan",))


class Strip(unittest.TestCase):

    def assert_strip(self, works, name, plan, stage):
        self.assertEqual(fault(works, name, plan_of(plan)), ("strip", stage))

    def test_a_whole_stage_that_reads_a_strip(self):
        self.assert_strip(three(), "c", "a strip, b whole", "b")

    def test_through_stages_in_place(self):
        works = works_of(*chain_of([1, 1, 1, 1, 1]))
        self.assert_strip(works, "e", "a strip, b in, c in, d whole", "d")
        self.assert_strip(works, "e", "a in, b strip, c in, d whole", "d")
        self.assertIsNone(fault(works, "e", plan_of("a strip, b strip, c in, d in")))
        self.assertIsNone(fault(works, "e", plan_of("a whole, b in, c in, d strip")))

    def test_a_whole_stage_between_keeps_it_away(self):
        works = works_of(*chain_of([1, 1, 1, 1]))
        self.assertIsNone(fault(works, "d", plan_of("a whole, b whole, c whole")))
        self.assertIsNone(fault(works, "d", plan_of("a whole, b whole, c strip")))
        self.assert_strip(works, "d", "a strip, b strip, c whole", "c")

    def test_one_read_among_several(self):
        works = works_of(("a", X), ("b", X), ("c", sum_of([read("a"), read("base"), read("b"), read("a")])), ("d", X))
        self.assert_strip(works, "d", "a whole, b strip, c whole", "c")
        self.assert_strip(works, "d", "a in, b strip, c whole", "c")
        self.assertIsNone(fault(works, "d", plan_of("a whole, b in, c whole")))
        self.assertIsNone(fault(works, "d", plan_of("a strip, b strip, c strip")))

    def test_the_first_one(self):
        works = works_of(("a", X), ("b", read("a")), ("c", read("a")), ("d", read("c")))
        self.assert_strip(works, "d", "a strip, b whole, c whole", "b")
        self.assert_strip(works, "d", "a strip, b in, c whole", "c")

    def test_the_asked_one_may_read_strips(self):
        self.assertIsNone(fault(three(), "b", plan_of("a strip")))

    def test_one_that_is_not_due_is_told_too(self):
        works = works_of(("a", X), ("b", read("a")), ("c", read("a")))
        self.assert_strip(works, "c", "a strip, b whole", "b")

    def test_behind_the_big_ones(self):
        works = works_of(("a", sum_of([read("base")] * 11)), ("b", X), ("c", read("b")),
                         ("d", sum_of([read("a")] * 26 + [read("b")])))
        self.assertEqual(fault(works, "d", plan_of("a in, b strip, c whole")), ("big", "d"))
        self.assert_strip(works, "d", "a whole, b strip, c whole", "c")


if __name__ == "__main__":
    unittest.main()
