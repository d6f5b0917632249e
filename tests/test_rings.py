"""Points 15 and 16: leads and rings, and what a ring of one row less loses."""

import copy
import unittest

from stripmill.errors import BadPlan, NoStage
from stripmill.layout import layout_for
from stripmill.rings import first_lost, leads, lost
from stripmill.works import Works

X = ("x",)
ONE = (0, 0, 2, 4)


def read(name, dx=0, dy=0):
    return ("read", name, dx, dy)


def reads(name, *steps):
    """The sum of reads of name, one for each dy."""
    formula = read(name, 0, steps[0])
    for dy in steps[1:]:
        formula = ("sum", formula, read(name, 0, dy))
    return formula


def works_of(*stages):
    return Works(10, [("base", 4, 4, 0)], list(stages))


def plan_of(text):
    """From "a in, b whole" the pairs."""
    return [tuple(pair.split()) for pair in text.split(", ")] if text else []


def two(*steps):
    return works_of(("a", X), ("b", reads("a", *steps)))


def blurs():
    """Each reads the rows above and below of the one before it."""
    return works_of(("a", X), ("b", reads("a", -1, 0, 1)), ("c", reads("b", -1, 0, 1)), ("d", reads("c", -1, 0, 1)))


def several():
    """a is read by b, by c and by the asked one d; e and f by no one that d reads."""
    return works_of(
        ("a", X),
        ("e", reads("a", 3, -3)),
        ("b", reads("a", 1, -1)),
        ("f", reads("b", -3)),
        ("c", ("sum", reads("b", 2), reads("a", -2))),
        ("d", ("sum", reads("c", 1, 0), reads("a", 0))),
    )


class Leads(unittest.TestCase):

    def assert_leads(self, works, name, plan, wanted, one=ONE):
        pairs = plan_of(plan)
        before = copy.deepcopy(pairs)
        self.assertEqual(leads(works, name, one, pairs), wanted)
        self.assertEqual(pairs, before)

    def test_one_reader(self):
        self.assert_leads(two(0), "b", "a strip", [("a", 0, 1)])
        self.assert_leads(two(-1, 0, 1), "b", "a strip", [("a", 1, 3)])
        self.assert_leads(two(1, 3), "b", "a strip", [("a", 3, 3)])
        self.assert_leads(two(3, -3), "b", "a strip", [("a", 3, 7)])
        self.assert_leads(two(2, 2), "b", "a strip", [("a", 2, 1)])

    def test_leads_below_nought(self):
        self.assert_leads(two(-1), "b", "a strip", [("a", -1, 1)])
        self.assert_leads(two(-3, -2), "b", "a strip", [("a", -2, 2)])
        works = works_of(("a", X), ("b", reads("a", -3, -1)), ("c", reads("b", -2, -3)))
        self.assert_leads(works, "c", "a strip, b strip", [("a", -3, 3), ("b", -2, 2)])

    def test_leads_add_up(self):
        self.assert_leads(blurs(), "d", "a strip, b strip, c strip", [("a", 3, 3), ("b", 2, 3), ("c", 1, 3)])

    def test_through_stages_in_place(self):
        self.assert_leads(blurs(), "d", "a strip, b in, c strip", [("a", 3, 5), ("c", 1, 3)])
        self.assert_leads(blurs(), "d", "a strip, b in, c in", [("a", 3, 7)])
        self.assert_leads(blurs(), "d", "a strip, b strip, c in", [("a", 3, 3), ("b", 2, 5)])

    def test_whole_stages_and_those_in_place_are_not_told(self):
        self.assert_leads(blurs(), "d", "a whole, b whole, c strip", [("c", 1, 3)])
        self.assert_leads(blurs(), "d", "a whole, b in, c strip", [("c", 1, 3)])
        self.assert_leads(blurs(), "d", "a whole, b whole, c whole", [])
        self.assert_leads(blurs(), "d", "a in, b in, c in", [])
        self.assert_leads(blurs(), "a", "", [])

    def test_several_readers(self):
        # c: 1, 0; b: 1 + 2; a: by b 3 + 1, 3 - 1, by c 1 - 2, by d 0.
        self.assert_leads(several(), "d", "a strip, e strip, b strip, f strip, c strip", [
            ("a", 4, 6), ("b", 3, 1), ("c", 1, 2)])
        # a: by c -2 + 1, by way of b 1 + 2 + 1, 1 + 2 - 1, by d 0.
        self.assert_leads(several(), "d", "a strip, e in, b in, f in, c strip", [("a", 4, 6), ("c", 1, 2)])
        # a: by d alone, with c in place moved by 1 and 0, 2 + 1 and 2 - 1 and -2 each.
        self.assert_leads(several(), "d", "a strip, e in, b in, f in, c in", [("a", 4, 7)])

    def test_stages_that_are_not_due_neither_are_told_nor_read(self):
        # By e alone would a have a ring of seven rows, by f alone b a greater one.
        self.assert_leads(several(), "f", "a strip, e strip, b strip", [("a", -2, 3), ("b", -3, 1)])
        self.assert_leads(several(), "e", "a strip", [("a", 3, 7)])
        self.assert_leads(several(), "b", "a strip, e strip", [("a", 1, 3)])

    def test_whatever_the_rectangle(self):
        for one in ((0, 0, 1, 1), (-60, -60, -40, -40), (80, 80, 100, 100), (5, -60, 7, 100), (-60, 99, 100, 100)):
            self.assert_leads(blurs(), "d", "a strip, b strip, c strip", [("a", 3, 3), ("b", 2, 3), ("c", 1, 3)], one)

    def test_refusals(self):
        for name in ("nothing", "base", ""):
            for plan in ("", "a strip", "a keep"):
                self.assertRaises(NoStage, leads, blurs(), name, ONE, plan_of(plan))
        for plan in ("", "a strip", "a strip, b strip, c keep", "a strip, b whole, c in", "b in, a in, c in"):
            self.assertRaises(BadPlan, leads, blurs(), "d", ONE, plan_of(plan))

    def test_kinds_and_that_the_told_is_the_askers_own(self):
        works, plan = blurs(), plan_of("a strip, b strip, c in")
        told = leads(works, "d", ONE, plan)
        self.assertIs(type(told), list)
        self.assertTrue(all(type(part) is tuple for part in told))
        told.clear()
        self.assertEqual(leads(works, "d", ONE, plan), [("a", 3, 3), ("b", 2, 5)])


class Lost(unittest.TestCase):

    def assert_lost(self, works, name, plan, stage, wanted, one=ONE):
        pairs = plan_of(plan)
        before = copy.deepcopy(pairs)
        self.assertEqual(lost(works, name, one, pairs, stage), wanted)
        self.assertEqual(pairs, before)

    def test_a_ring_of_one_row(self):
        self.assert_lost(two(0), "b", "a strip", "a", (5, "b", 5), (0, 5, 2, 9))
        self.assert_lost(two(2), "b", "a strip", "a", (5, "b", 7), (0, 5, 2, 9))
        self.assert_lost(two(-3), "b", "a strip", "a", (-60, "b", -63), (0, -60, 2, -59))

    def test_a_ring_of_one_row_is_lost_by_the_first_read_of_any_row(self):
        # c has a ring of five rows, from -1 to 3 for the asked row 0; each row of it reads one of b, and that one of a.
        works = works_of(("a", X), ("b", reads("a", 0)), ("c", reads("b", 0)), ("d", reads("c", -1, 3)))
        self.assert_lost(works, "d", "a strip, b strip, c strip", "a", (-4, "b", -1), (0, 0, 1, 1))
        self.assert_lost(works, "d", "a strip, b strip, c strip", "b", (-4, "c", -1), (0, 0, 1, 1))
        self.assert_lost(works, "d", "a strip, b strip, c strip", "c", (0, "d", -1), (0, 0, 1, 1))

    def test_longer_rings(self):
        # In the beat 0 the row 1 is made, in the slot of the row -1, and -1 is read.
        self.assert_lost(two(-1, 0, 1), "b", "a strip", "a", (0, "b", -1))
        self.assert_lost(two(1, 3), "b", "a strip", "a", (0, "b", 1))
        self.assert_lost(two(-3, -2), "b", "a strip", "a", (0, "b", -3))
        self.assert_lost(two(3, -3), "b", "a strip", "a", (-60, "b", -63), (0, -60, 1, -40))

    def test_one_asked_row(self):
        self.assert_lost(two(-1, 0, 1), "b", "a strip", "a", (7, "b", 6), (0, 7, 2, 8))

    def test_readers_that_begin_ahead_of_the_asked_one(self):
        plan = "a strip, b strip, c strip"
        # c's first row is -1, made in the beat -2; b's first one is -2, in the beat -4.
        self.assert_lost(blurs(), "d", plan, "c", (0, "d", -1))
        self.assert_lost(blurs(), "d", plan, "b", (-2, "c", -2))
        self.assert_lost(blurs(), "d", plan, "a", (-4, "b", -3))

    def test_in_a_beat_readers_in_order(self):
        # b and the asked one read the rows -1 and 1 in the same beats.
        works = works_of(("a", X), ("b", reads("a", -1, 1)), ("c", ("sum", read("b"), reads("a", 1, -1))))
        self.assert_lost(works, "c", "a strip, b strip", "a", (0, "b", -1))
        works = works_of(("a", X), ("b", reads("a", 1)), ("c", ("sum", read("b"), reads("a", 1, -1))))
        self.assert_lost(works, "c", "a strip, b strip", "a", (0, "c", -1))

    def test_a_reader_that_makes_no_row_in_a_beat(self):
        # From the beat -6 on b reads a's rows from 0 on, but the row -3 is read in the beat 0 alone.
        works = works_of(("a", X), ("b", reads("a", 3)), ("c", ("sum", reads("b", 3, -3), reads("a", -3))))
        self.assertEqual(leads(works, "c", (0, 0, 1, 1), plan_of("a strip, b strip")), [("a", 6, 10), ("b", 3, 7)])
        self.assert_lost(works, "c", "a strip, b strip", "a", (0, "c", -3), (0, 0, 1, 1))

    def test_through_stages_in_place(self):
        self.assert_lost(blurs(), "d", "a strip, b in, c strip", "a", (-2, "c", -3))
        self.assert_lost(blurs(), "d", "a strip, b in, c in", "a", (0, "d", -3))

    def test_readers_that_are_not_due(self):
        self.assert_lost(several(), "f", "a strip, e strip, b strip", "b", (0, "f", -3))
        self.assert_lost(several(), "f", "a strip, e strip, b strip", "a", (0, "b", -4))

    def test_none_where_nothing_is_lost(self):
        # By the told rings nothing is lost, by longer ones neither; by those of one row less something always is.
        for works, name, plan in ((two(0), "b", "a strip"), (two(-3, -2), "b", "a strip"),
                                  (blurs(), "d", "a strip, b strip, c strip"), (blurs(), "d", "a strip, b in, c strip"),
                                  (several(), "d", "a strip, e in, b strip, f in, c strip")):
            layout = layout_for(works, name, ONE, plan_of(plan))
            for stage, lead, ring in leads(works, name, ONE, plan_of(plan)):
                self.assertIsNone(first_lost(layout, stage, ring))
                self.assertIsNone(first_lost(layout, stage, ring + 1))
                self.assertIsNotNone(first_lost(layout, stage, ring - 1))

    def test_a_ring_that_is_much_too_short(self):
        # By a ring of one row the slot of -1 has the row 0 in the beat in which b first reads it.
        for steps in ((-1, 0, 1), (1, 0, -1), (0, -1, 1)):
            layout = layout_for(two(*steps), "b", ONE, plan_of("a strip"))
            self.assertEqual(first_lost(layout, "a", 1), (0, "b", -1))
        layout = layout_for(two(0, 1), "b", ONE, plan_of("a strip"))
        self.assertEqual(first_lost(layout, "a", 1), (0, "b", 0))

    def test_no_stage_where_it_is_not_a_due_strip(self):
        plan = plan_of("a strip, e strip, b strip, f in, c strip")
        for stage in ("d", "e", "f", "base", "nothing", "", "A"):
            self.assertRaises(NoStage, lost, several(), "d", ONE, plan, stage)
        for stage in ("a", "b", "c", "d"):
            self.assertRaises(NoStage, lost, blurs(), "d", ONE, plan_of("a whole, b whole, c in"), stage)
            self.assertRaises(NoStage, lost, blurs(), "d", ONE, plan_of("a in, b in, c in"), stage)
        self.assertRaises(NoStage, lost, blurs(), "b", ONE, plan_of("a strip"), "c")

    def test_refusals_in_order(self):
        for stage in ("a", "nothing"):
            for plan in ("", "a strip", "a keep"):
                for name in ("nothing", "base"):
                    self.assertRaises(NoStage, lost, blurs(), name, ONE, plan_of(plan), stage)
                self.assertRaises(BadPlan, lost, blurs(), "d", ONE, plan_of(plan), stage)
            self.assertRaises(BadPlan, lost, blurs(), "c", ONE, plan_of("a strip, b whole"), stage)

    def test_kind(self):
        self.assertIs(type(lost(two(0), "b", ONE, [("a", "strip")], "a")), tuple)


if __name__ == "__main__":
    unittest.main()
