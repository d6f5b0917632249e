"""Points 17 and 18: flat deeds, and the room that rows are kept in."""

import copy
import unittest

from stripmill.errors import BadPlan, NoStage
from stripmill.flat import flat, room
from stripmill.works import Works

X = ("x",)


def read(name, dx=0, dy=0):
    return ("read", name, dx, dy)


def sum_of(formulas):
    """Halves of halves, so that it stays flat."""
    if len(formulas) == 1:
        return formulas[0]
    half = len(formulas) // 2
    return ("sum", sum_of(formulas[:half]), sum_of(formulas[half:]))


def works_of(*stages):
    return Works(10, [("base", 4, 4, 0)], list(stages))


def plan_of(text):
    """From "a in, b whole" the pairs."""
    return [tuple(pair.split()) for pair in text.split(", ")] if text else []


def blur(name):
    return ("sum", read(name, -1, -1), read(name, 2, 1))


def blurs():
    return works_of(("a", blur("base")), ("b", blur("a")), ("c", blur("b")))


def with_lone():
    """lone and low are read by no one; c reads a and b."""
    return works_of(("a", X), ("lone", read("a", 0, 3)), ("b", read("a", 1, -1)), ("low", X),
                    ("c", ("sum", read("a", 0, 2), read("b", 0, 1))))


def makes(stage, *rows_and_slots):
    return [("make", stage, row, slot) for row, slot in rows_and_slots]


def tells(*rows):
    return [("tell", row) for row in rows]


class Flat(unittest.TestCase):

    def assert_flat(self, works, name, one, plan, wanted):
        pairs = plan_of(plan)
        before = copy.deepcopy(pairs)
        self.assertEqual(flat(works, name, one, pairs), wanted)
        self.assertEqual(pairs, before)

    def test_the_asked_one_alone(self):
        self.assert_flat(blurs(), "a", (0, -2, 3, 1), "", tells(-2, -1, 0))
        self.assert_flat(blurs(), "a", (0, 5, 3, 6), "", tells(5))

    def test_stages_in_place_make_nothing(self):
        self.assert_flat(blurs(), "c", (0, 0, 3, 2), "a in, b in", tells(0, 1))

    def test_whole_stages(self):
        self.assert_flat(blurs(), "c", (0, 0, 3, 2), "a whole, b whole",
                         makes("a", (-2, 0), (-1, 1), (0, 2), (1, 3), (2, 4), (3, 5))
                         + makes("b", (-1, 0), (0, 1), (1, 2), (2, 3)) + tells(0, 1))
        self.assert_flat(blurs(), "b", (0, 7, 3, 8), "a whole", makes("a", (6, 0), (7, 1), (8, 2)) + tells(7))

    def test_one_strip(self):
        # The lead is 1, the ring 3.
        self.assert_flat(blurs(), "b", (0, 0, 3, 3), "a strip",
                         makes("a", (-1, 2), (0, 0), (1, 1)) + tells(0)
                         + makes("a", (2, 2)) + tells(1) + makes("a", (3, 0)) + tells(2))

    def test_strips_of_strips(self):
        # The leads are 2 and 1, the rings 3 and 3; in the beats a has its row ahead of b.
        self.assert_flat(blurs(), "c", (0, 0, 3, 2), "a strip, b strip",
                         makes("a", (-2, 1), (-1, 2), (0, 0)) + makes("b", (-1, 2))
                         + makes("a", (1, 1)) + makes("b", (0, 0))
                         + makes("a", (2, 2)) + makes("b", (1, 1)) + tells(0)
                         + makes("a", (3, 0)) + makes("b", (2, 2)) + tells(1))

    def test_a_strip_behind_a_whole_stage(self):
        self.assert_flat(blurs(), "c", (0, 0, 3, 1), "a whole, b strip",
                         makes("a", (-2, 0), (-1, 1), (0, 2), (1, 3), (2, 4))
                         + makes("b", (-1, 2), (0, 0), (1, 1)) + tells(0))

    def test_a_strip_by_way_of_a_stage_in_place(self):
        # The ring is 5: a's rows from two above to two below.
        self.assert_flat(blurs(), "c", (0, 0, 3, 2), "a strip, b in",
                         makes("a", (-2, 3), (-1, 4), (0, 0), (1, 1), (2, 2)) + tells(0) + makes("a", (3, 3)) + tells(1))
        self.assert_flat(blurs(), "c", (0, 0, 3, 2), "a in, b strip",
                         makes("b", (-1, 2), (0, 0), (1, 1)) + tells(0) + makes("b", (2, 2)) + tells(1))

    def test_whole_stages_ahead_of_all_strips(self):
        works = works_of(("a", X), ("b", read("base", 0, 1)), ("c", ("sum", read("a"), read("b"))))
        self.assert_flat(works, "c", (0, 0, 3, 2), "a strip, b whole",
                         makes("b", (0, 0), (1, 1)) + makes("a", (0, 0)) + tells(0) + makes("a", (1, 0)) + tells(1))

    def test_leads_below_nought(self):
        works = works_of(("a", X), ("b", ("sum", read("a", 0, -3), read("a", 0, -2))))
        # The lead is -2, the ring 2: rows -3 and -2 for the row 0.
        self.assert_flat(works, "b", (0, 0, 1, 3), "a strip",
                         makes("a", (-3, 1)) + makes("a", (-2, 0)) + tells(0) + makes("a", (-1, 1)) + tells(1)
                         + makes("a", (0, 0)) + tells(2))
        works = works_of(("a", X), ("b", read("a", 0, -3)))
        self.assert_flat(works, "b", (0, -60, 1, -58), "a strip",
                         makes("a", (-63, 0)) + tells(-60) + makes("a", (-62, 0)) + tells(-59))

    def test_rows_within_the_hull_that_nothing_touches(self):
        works = works_of(("a", X), ("b", ("sum", read("a", 0, -2), read("a", 0, 2))))
        self.assert_flat(works, "b", (0, 0, 1, 1), "a whole",
                         makes("a", (-2, 0), (-1, 1), (0, 2), (1, 3), (2, 4)) + tells(0))
        self.assert_flat(works, "b", (0, 0, 1, 1), "a strip",
                         makes("a", (-2, 3), (-1, 4), (0, 0), (1, 1), (2, 2)) + tells(0))

    def test_stages_that_are_not_due(self):
        for way in ("in", "whole", "strip"):
            # b has the lead 1 and the ring 1, a the lead 2 and the ring 3.
            self.assert_flat(with_lone(), "c", (0, 0, 1, 1), f"a strip, lone strip, b strip, low {way}",
                             makes("a", (0, 0), (1, 1), (2, 2)) + makes("b", (1, 0)) + tells(0))
            self.assert_flat(with_lone(), "c", (0, 0, 1, 1), f"a whole, lone {way}, b strip, low {way}",
                             makes("a", (0, 0), (1, 1), (2, 2)) + makes("b", (1, 0)) + tells(0))
            self.assert_flat(with_lone(), "low", (0, 0, 1, 2), f"a whole, lone {way}, b {way}", tells(0, 1))

    def test_kinds_and_that_the_told_is_the_askers_own(self):
        works, plan = blurs(), plan_of("a whole, b strip")
        told = flat(works, "c", (0, 0, 3, 1), plan)
        self.assertIs(type(told), list)
        self.assertTrue(all(type(deed) is tuple for deed in told))
        kept = list(told)
        told.clear()
        self.assertEqual(flat(works, "c", (0, 0, 3, 1), plan), kept)


class Room(unittest.TestCase):

    def assert_room(self, works, name, one, plan, wanted):
        pairs = plan_of(plan)
        before = copy.deepcopy(pairs)
        self.assertEqual(room(works, name, one, pairs), wanted)
        self.assertEqual(pairs, before)

    def test_none_for_the_asked_one_and_stages_in_place(self):
        self.assert_room(blurs(), "a", (0, 0, 3, 2), "", [])
        self.assert_room(blurs(), "c", (0, 0, 3, 2), "a in, b in", [])

    def test_whole_stages_and_strips(self):
        one = (0, 0, 3, 2)
        self.assert_room(blurs(), "c", one, "a whole, b whole", [("a", 6, -2, 9), ("b", 4, -1, 6)])
        self.assert_room(blurs(), "c", one, "a strip, b strip", [("a", 3, -2, 9), ("b", 3, -1, 6)])
        self.assert_room(blurs(), "c", one, "a whole, b strip", [("a", 6, -2, 9), ("b", 3, -1, 6)])
        self.assert_room(blurs(), "c", one, "a strip, b in", [("a", 5, -2, 9)])
        self.assert_room(blurs(), "c", one, "a whole, b in", [("a", 6, -2, 9)])
        self.assert_room(blurs(), "c", one, "a in, b whole", [("b", 4, -1, 6)])

    def test_rows_and_columns_below_nought(self):
        self.assert_room(blurs(), "b", (-60, -60, -58, -50), "a whole", [("a", 12, -61, 5)])
        self.assert_room(blurs(), "b", (-60, -60, -58, -50), "a strip", [("a", 3, -61, 5)])

    def test_one_asked_row(self):
        # Of a, b's row 3 reads the row 1, the asked row 0 the row 2.
        works = works_of(("a", X), ("b", read("a", 0, -2)), ("c", ("sum", read("b", 0, 3), read("a", 0, 2))))
        self.assert_room(works, "c", (0, 0, 1, 1), "a whole, b whole", [("a", 2, 0, 1), ("b", 1, 0, 1)])
        self.assert_room(works, "c", (0, 0, 1, 1), "a strip, b strip", [("a", 2, 0, 1), ("b", 1, 0, 1)])

    def test_stages_that_are_not_due(self):
        for way in ("in", "whole", "strip"):
            self.assert_room(with_lone(), "c", (0, 0, 1, 1), f"a strip, lone strip, b strip, low {way}",
                             [("a", 3, 0, 2), ("b", 1, 0, 1)])
            self.assert_room(with_lone(), "c", (0, 0, 1, 1), f"a whole, lone {way}, b whole, low {way}",
                             [("a", 3, 0, 2), ("b", 1, 0, 1)])
            self.assert_room(with_lone(), "low", (0, 0, 1, 2), f"a whole, lone {way}, b {way}", [])

    def test_kinds_and_that_the_told_is_the_askers_own(self):
        works, plan = blurs(), plan_of("a whole, b strip")
        told = room(works, "c", (0, 0, 3, 1), plan)
        self.assertIs(type(told), list)
        self.assertTrue(all(type(part) is tuple for part in told))
        kept = list(told)
        told.clear()
        self.assertEqual(room(works, "c", (0, 0, 3, 1), plan), kept)


class Refusals(unittest.TestCase):

    def test_no_stage_then_bad_plan(self):
        for ask in (flat, room):
            for plan in ("", "a in", "a keep, b in", "a strip, b whole", "b in, a in"):
                for name in ("nothing", "base", ""):
                    self.assertRaises(NoStage, ask, blurs(), name, (0, 0, 1, 1), plan_of(plan))
                self.assertRaises(BadPlan, ask, blurs(), "c", (0, 0, 1, 1), plan_of(plan))
            self.assertRaises(BadPlan, ask, blurs(), "a", (0, 0, 1, 1), plan_of("a in"))

    def test_a_plan_with_too_many_askings(self):
        works = works_of(("a", sum_of([read("base")] * 26)), ("b", sum_of([read("a")] * 2)),
                         ("c", sum_of([read("b")] * 6)))
        # 6 + 6 * (2 + 2 * 26).
        for ask in (flat, room):
            self.assertRaises(BadPlan, ask, works, "c", (0, 0, 1, 1), plan_of("a in, b in"))
            ask(works, "c", (0, 0, 1, 1), plan_of("a whole, b in"))


if __name__ == "__main__":
    unittest.main()
