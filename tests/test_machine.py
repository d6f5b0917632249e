"""Points 19 and 20: the machine does any deeds; by flat's own ones it tells the picture, whatever the plan."""

import copy
import itertools
import time
import unittest

from stripmill.errors import BadGiven, BadPlan, NoStage
from stripmill.flat import flat, room
from stripmill.layout import layout_for
from stripmill.machine import Machine, made, run
from stripmill.meaning import picture
from stripmill.plans import fault
from stripmill.works import Works

X, Y = ("x",), ("y",)
MEASURE = 1000
BASE = [[1, 2, 3, 4], [5, 6, 7, 8], [9, 10, 11, 12]]
WAYS = ("in", "whole", "strip")


def read(name, dx=0, dy=0):
    return ("read", name, dx, dy)


def sum_of(formulas):
    """Halves of halves, so that it stays flat."""
    if len(formulas) == 1:
        return formulas[0]
    half = len(formulas) // 2
    return ("sum", sum_of(formulas[:half]), sum_of(formulas[half:]))


def works_of(*stages):
    return Works(MEASURE, [("base", 4, 3, 900)], list(stages))


def given():
    return {"base": copy.deepcopy(BASE)}


def plan_of(text):
    """From "a in, b whole" the pairs."""
    return [tuple(pair.split()) for pair in text.split(", ")] if text else []


def place():
    """100 y + x, so that a number tells where it was made."""
    return ("sum", ("times", ("number", 100), Y), X)


def two(*steps):
    """b is the sum of reads of a, one for each dx, dy."""
    return works_of(("a", place()), ("b", sum_of([read("a", dx, dy) for dx, dy in steps])))


def blurs():
    stages = [(name, sum_of([read(above, -1, -1), read(above, 2, 1), read("base", 0, 1)]))
              for name, above in zip("abcd", ("base", "a", "b", "c"))]
    return works_of(*stages)


class Run(unittest.TestCase):

    def assert_run(self, works, name, one, plan, deeds, wanted):
        pairs, rows = plan_of(plan), given()
        before = copy.deepcopy((pairs, rows, deeds))
        self.assertEqual(run(works, rows, name, one, pairs, deeds), wanted)
        self.assertEqual((pairs, rows, deeds), before)

    def test_no_deeds(self):
        self.assert_run(two((0, 0)), "b", (0, 0, 2, 2), "a whole", [], [])

    def test_making_alone_tells_nothing(self):
        self.assert_run(two((0, 0)), "b", (0, 0, 2, 2), "a whole", [("make", "a", 0, 0)], [])

    def test_rows_of_pictures_and_their_rims(self):
        works = works_of(("a", read("base")))
        self.assert_run(works, "a", (-1, 0, 5, 1), "", [("tell", 0), ("tell", 2), ("tell", 3), ("tell", -1)], [
            (0, [900, 1, 2, 3, 4, 900]), (2, [900, 9, 10, 11, 12, 900]), (3, [900] * 6), (-1, [900] * 6)])

    def test_rests_by_the_measure(self):
        works = Works(7, [("base", 1, 1, 10)], [("a", read("base")), ("b", sum_of([read("a"), X, Y]))])
        for plan in ("a in", "a whole"):
            deeds = flat(works, "b", (0, 0, 2, 1), plan_of(plan))
            self.assertEqual(run(works, {"base": [[-1]]}, "b", (0, 0, 2, 1), plan_of(plan), deeds), [(0, [6, 4])])

    def test_rows_told_twice_and_beyond_what_is_asked(self):
        works = works_of(("a", place()))
        deeds = [("tell", 1), ("tell", 0), ("tell", 1), ("tell", -100), ("tell", 200)]
        self.assert_run(works, "a", (2, 0, 4, 1), "", deeds, [
            (1, [102, 103]), (0, [2, 3]), (1, [102, 103]), (-100, [2, 3]), (200, [2, 3])])

    def test_boxes_have_nought_first(self):
        for way in ("whole", "strip"):
            self.assert_run(two((0, 0)), "b", (1, 0, 3, 2), f"a {way}", [("tell", 0), ("tell", 1)], [
                (0, [0, 0]), (1, [0, 0])])

    def test_a_row_that_is_made_behind_a_tell(self):
        deeds = [("tell", 1), ("make", "a", 1, 1), ("tell", 1), ("tell", 0)]
        self.assert_run(two((0, 0)), "b", (1, 0, 3, 2), "a whole", deeds, [
            (1, [0, 0]), (1, [101, 102]), (0, [0, 0])])

    def test_slots_made_over(self):
        deeds = [("make", "a", 0, 0), ("tell", 0), ("make", "a", 5, 0), ("tell", 0), ("make", "a", 0, 0), ("tell", 0)]
        for way in ("whole", "strip"):
            self.assert_run(two((0, 0)), "b", (1, 0, 3, 2), f"a {way}", deeds, [
                (0, [1, 2]), (0, [501, 502]), (0, [1, 2])])

    def test_rows_beyond_what_is_needed(self):
        deeds = [("make", "a", -100, 0), ("make", "a", 200, 1), ("make", "a", 9, 2), ("tell", 0)]
        self.assert_run(two((0, 0), (0, 1), (0, 2)), "b", (3, 0, 4, 1), "a whole", deeds, [(0, [(3 + 3 + 903) % MEASURE])])

    def test_a_whole_stages_slots_by_its_top(self):
        # The rows -3 to 2 of a are kept, in the slots 0 to 5.
        works, plan = two((0, -3), (0, 1)), "a whole"
        makes = [("make", "a", slot + 1, slot) for slot in range(6)]
        self.assert_run(works, "b", (0, 0, 1, 2), plan, makes + [("tell", 0)], [(0, [100 + 500])])
        self.assert_run(works, "b", (0, 0, 1, 2), plan, makes + [("tell", 1)], [(1, [200 + 600])])

    def test_a_whole_stage_has_no_box_beyond_its_rows(self):
        makes = [("make", "a", slot + 1, slot) for slot in range(6)]
        # For the row 2 are -1 and 3 read, for -1 are -4 and 0: 3 and -4 have no box.
        self.assert_run(two((0, -3), (0, 1)), "b", (0, 0, 1, 2), "a whole", makes + [
            ("tell", 2), ("tell", -1), ("tell", 5), ("tell", 6), ("tell", -5)], [
                (2, [300]), (-1, [400]), (5, [600]), (6, [0]), (-5, [0])])

    def test_a_strips_slots_by_the_rest_also_below_nought(self):
        # The ring is 3; for the row r are r - 1 and r + 1 read.
        makes = [("make", "a", 1, 0), ("make", "a", 2, 1), ("make", "a", 3, 2)]
        rows = (0, 1, 2, -1, -2, 100, -100)
        wanted = [(0, [300 + 200]), (1, [100 + 300]), (2, [200 + 100]), (-1, [200 + 100]), (-2, [100 + 300]),
                  (100, [100 + 300]), (-100, [200 + 100])]
        self.assert_run(two((0, -1), (0, 1)), "b", (0, 0, 1, 2), "a strip",
                        makes + [("tell", row) for row in rows], wanted)

    def test_a_row_is_made_from_the_rows_that_its_own_row_reads(self):
        # b's row 1 is put into the slot of its row 0: whole, a has no row 1 to read; as a strip each row has a slot.
        works = works_of(("a", place()), ("b", read("a", 2, 0)), ("c", sum_of([read("a"), read("b")])))
        deeds = [("make", "a", 1, 0), ("make", "b", 1, 0), ("tell", 0)]
        self.assert_run(works, "c", (0, 0, 1, 1), "a whole, b whole", deeds, [(0, [100 + 0])])
        self.assert_run(works, "c", (0, 0, 1, 1), "a strip, b strip", deeds, [(0, [100 + 102])])
        self.assert_run(works, "c", (0, 0, 1, 1), "a whole, b strip", deeds, [(0, [100 + 0])])

    def test_boxes_that_there_are_not(self):
        works = works_of(("a", place()), ("lone", place()), ("b", sum_of([read("a", 0, -1), read("a", 3, 1)])))
        for way in ("whole", "strip"):
            layout = layout_for(works, "b", (0, 0, 2, 1), plan_of(f"a {way}, lone {way}"))
            machine = Machine(works, given(), layout)
            for slot in range(3):
                machine.make("a", 2, slot)
            # a's columns are 0 to 4, its rows -1 to 1; lone isn't due.
            self.assertEqual([machine.boxed("a", x, 0) for x in range(-3, 8)], [0] * 3 + [200, 201, 202, 203, 204] + [0] * 3)
            self.assertEqual([machine.boxed("a", 1, y) for y in range(-3, 4)],
                             [201] * 7 if way == "strip" else [0, 0, 201, 201, 201, 0, 0])
            self.assertEqual([machine.boxed("lone", x, y) for x in (0, 1) for y in (-1, 0, 1)], [0] * 6)

    def test_columns_that_nothing_touches_are_made_too(self):
        # b reads a at -2 and 2: a's columns are -2 to 2. c has b at -3 and 3, so b's columns are -3 to 3.
        works = works_of(("a", ("number", 1)), ("b", sum_of([read("a", -2, 0), read("a", 2, 0)])),
                         ("c", sum_of([read("b", -3, 0), read("b", 3, 0), read("a", 0, 0)])))
        plan, one = plan_of("a whole, b whole"), (0, 0, 1, 1)
        self.assertEqual(room(works, "c", one, plan), [("a", 1, -5, 11), ("b", 1, -3, 7)])
        self.assertEqual(run(works, given(), "c", one, plan, flat(works, "c", one, plan)), [(0, [5])])

    def test_stages_in_place_read_the_boxes_as_they_are(self):
        works = works_of(("a", place()), ("b", sum_of([read("a", 0, 0), X])), ("c", sum_of([read("b"), read("b")])))
        deeds = [("tell", 0), ("make", "a", 3, 0), ("tell", 0), ("make", "a", 4, 0), ("tell", 0)]
        self.assert_run(works, "c", (1, 0, 3, 1), "a strip, b in", deeds, [
            (0, [2, 4]), (0, [604, 608]), (0, [804, 808])])

    def test_what_is_told_stays(self):
        works, rows, plan = two((0, 0)), given(), plan_of("a whole")
        deeds = [("make", "a", 0, 0), ("tell", 0), ("make", "a", 1, 0), ("tell", 0)]
        told = run(works, rows, "b", (0, 0, 2, 1), plan, deeds)
        self.assertEqual(told, [(0, [0, 1]), (0, [100, 101])])
        told[0][1].clear()
        self.assertEqual(told[1], (0, [100, 101]))
        self.assertEqual(run(works, rows, "b", (0, 0, 2, 1), plan, deeds), [(0, [0, 1]), (0, [100, 101])])

    def test_runs_share_no_boxes(self):
        works, plan = two((0, 0)), plan_of("a strip")
        run(works, given(), "b", (0, 0, 2, 1), plan, [("make", "a", 7, 0)])
        self.assertEqual(run(works, given(), "b", (0, 0, 2, 1), plan, [("tell", 0)]), [(0, [0, 0])])

    def test_kinds(self):
        told = run(two((0, 0)), given(), "b", (0, 0, 2, 1), plan_of("a in"), [("tell", 0)])
        self.assertIs(type(told), list)
        self.assertIs(type(told[0]), tuple)
        self.assertIs(type(told[0][1]), list)


class Made(unittest.TestCase):

    def assert_made(self, works, name, one, plan, rows=None):
        rows = rows or given()
        before = copy.deepcopy((plan, rows))
        told = made(works, rows, name, one, plan)
        self.assertEqual(told, picture(works, rows, name, one), plan)
        self.assertEqual(told, [numbers for row, numbers in
                                run(works, rows, name, one, plan, flat(works, name, one, plan))], plan)
        self.assertEqual((plan, rows), before)

    def plans(self, works, name):
        above = works.stages()[:works.stages().index(name)]
        plans = [list(zip(above, ways)) for ways in itertools.product(WAYS, repeat=len(above))]
        return [plan for plan in plans if fault(works, name, plan) is None]

    def test_by_hand(self):
        works = works_of(("a", sum_of([read("base", -1, 0), read("base", 1, 0)])),
                         ("b", sum_of([read("a", 0, -1), read("a", 0, 1)])))
        for way in WAYS:
            # Of a, the rows 0, 1, 2: 902 4 6 903, 906 12 14 907, 910 20 22 911; 800 above and below.
            self.assertEqual(made(works, given(), "b", (0, 1, 4, 3), [("a", way)]), [
                [812, 24, 28, 814], [706, 812, 814, 707]])

    def test_the_first_stage(self):
        self.assert_made(blurs(), "a", (-2, -2, 6, 5), [])

    def test_one_way_for_all(self):
        for way in WAYS:
            for one in ((0, 0, 1, 1), (-3, -4, 5, 6), (-60, -60, -58, -50), (0, 0, 20, 20), (97, 96, 100, 100)):
                self.assert_made(blurs(), "d", one, [(name, way) for name in "abc"])

    def test_every_plan_without_a_fault(self):
        plans = self.plans(blurs(), "d")
        # Of the 27, a whole b reading a strip a, a whole c reading a strip b, and a whole c reading a by way of b.
        self.assertEqual(len(plans), 27 - 3 - 3 - 1)
        for plan in plans:
            self.assert_made(blurs(), "d", (-1, -2, 3, 4), plan)

    def test_readers_of_several_and_stages_that_are_not_due(self):
        works = works_of(
            ("a", sum_of([read("base", 1, -2), place()])),
            ("lone", sum_of([read("a", 3, 3), read("base")])),
            ("b", ("less", read("a", -3, 2), ("times", read("a", 0, -3), read("base", 1, 1)))),
            ("c", ("pick", ("least", read("b", 0, -2), ("number", 1)), read("a", 2, -3), ("most", read("b", 1, 3), X))),
            ("d", ("sum", read("c", 0, -3), ("times", read("a", 1, 3), read("c", -2, 1)))),
        )
        plans = self.plans(works, "d")
        self.assertGreater(len(plans), 40)
        for plan in plans:
            self.assert_made(works, "d", (0, -1, 2, 3), plan)

    def test_a_stage_that_reads_nothing_of_those_above(self):
        works = works_of(("a", X), ("b", read("a", 0, 1)), ("c", place()))
        for plan in self.plans(works, "c"):
            self.assert_made(works, "c", (0, 0, 3, 2), plan)

    def test_holes_in_what_is_needed(self):
        works = works_of(("a", sum_of([read("base", -3, -3), read("base", 3, 3)])),
                         ("b", sum_of([read("a", -3, 3), read("a", 3, -3), read("a", 0, 0)])),
                         ("c", sum_of([read("b", -3, -3), read("b", 3, 3)])))
        for plan in self.plans(works, "c"):
            self.assert_made(works, "c", (1, 1, 2, 2), plan)
            self.assert_made(works, "c", (-5, 0, 6, 4), plan)

    def test_great_numbers(self):
        works = Works(10 ** 60, [("base", 1, 2, 10 ** 60 - 1)],
                      [("a", ("times", read("base", 0, 1), read("base"))), ("b", ("less", read("a", 0, -1), read("a")))])
        for plan in self.plans(works, "b"):
            self.assert_made(works, "b", (-1, -1, 2, 3), plan, {"base": [[-10 ** 59], [10 ** 60 - 7]]})

    def test_far_apart_and_many(self):
        steps = [(-3, -3), (3, 3), (0, 1), (-1, 2), (3, -3), (1, -1), (2, 2), (-2, 0)]
        stages, above = [], "base"
        for name in "abcdefgh":
            stages.append((name, sum_of([read(above, dx, dy) for dx, dy in steps])))
            above = name
        works = works_of(*stages)
        start = time.process_time()
        self.assert_made(works, "h", (0, -60, 2, 100), [(name, "strip") for name in "abcdefg"])
        self.assert_made(works, "h", (-60, 0, 100, 2), plan_of("a in, b whole, c in, d strip, e in, f strip, g in"))
        self.assertLess(time.process_time() - start, 10)

    def test_kinds_and_that_the_told_is_the_askers_own(self):
        works, plan, rows = blurs(), plan_of("a whole, b strip, c in"), given()
        told = made(works, rows, "d", (0, 0, 2, 2), plan)
        self.assertIs(type(told), list)
        self.assertTrue(all(type(row) is list for row in told))
        kept = copy.deepcopy(told)
        rows["base"][0][0] += 1
        self.assertEqual(told, kept)
        told[0].clear()
        self.assertEqual(made(works, given(), "d", (0, 0, 2, 2), plan), kept)


class Refusals(unittest.TestCase):

    def asks(self):
        return [lambda rows, name, plan: made(blurs(), rows, name, (0, 0, 1, 1), plan_of(plan)),
                lambda rows, name, plan: run(blurs(), rows, name, (0, 0, 1, 1), plan_of(plan), [("tell", 0)]),
                lambda rows, name, plan: run(blurs(), rows, name, (0, 0, 1, 1), plan_of(plan), [])]

    def test_no_stage_ahead_of_all(self):
        for ask in self.asks():
            for name in ("nothing", "base", ""):
                for plan in ("", "a in, b in", "a keep"):
                    for rows in (given(), {}):
                        self.assertRaises(NoStage, ask, rows, name, plan)

    def test_bad_plan_ahead_of_bad_given(self):
        for ask in self.asks():
            for plan in ("", "a in", "a in, b keep", "a strip, b whole", "b in, a in", "a in, b in, c in"):
                for rows in (given(), {}, {"base": []}):
                    self.assertRaises(BadPlan, ask, rows, "c", plan)

    def test_bad_given_with_the_name(self):
        short = given()
        short["base"][1].pop()
        for ask in self.asks():
            for rows in ({}, {"base": []}, {"base": BASE[:2]}, {"base": BASE + BASE[:1]}, short, {"bas": BASE}):
                with self.assertRaises(BadGiven) as caught:
                    ask(rows, "c", "a in, b in")
                self.assertIs(type(caught.exception), BadGiven)
                self.assertEqual(caught.exception.name, "base")

    def test_bad_given_for_the_first_picture_also_where_no_one_reads_it(self):
        works = Works(10, [("one", 1, 1, 0), ("two", 1, 2, 0)], [("a", X), ("b", read("two"))])
        for rows, name in (({"two": [[1], [2]]}, "one"), ({"one": [[1]]}, "two"), ({}, "one"),
                           ({"one": [[1]], "two": [[1]]}, "two"), ({"one": [[1, 1]], "two": [[1]]}, "one")):
            for ask in (lambda: made(works, rows, "a", (0, 0, 1, 1), []),
                        lambda: run(works, rows, "b", (0, 0, 1, 1), [("a", "in")], [])):
                with self.assertRaises(BadGiven) as caught:
                    ask()
                self.assertEqual(caught.exception.name, name)

    def test_other_names_are_not_looked_at(self):
        rows = {**given(), "other": "no rows", "a": None}
        self.assertEqual(made(blurs(), rows, "a", (0, 0, 2, 1), []), picture(blurs(), given(), "a", (0, 0, 2, 1)))


if __name__ == "__main__":
    unittest.main()
