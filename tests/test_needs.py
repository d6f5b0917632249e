"""Point 12: what an asked part touches, the rectangles that are needed, and chains."""

import time
import unittest

from stripmill.errors import NoStage
from stripmill.formulas import reads_of
from stripmill.needs import chain, needs, touched
from stripmill.works import Works

X = ("x",)
SIDES = ("left", "top", "right", "bottom")


def read(name, dx=0, dy=0):
    return ("read", name, dx, dy)


def sum_of(formulas):
    """Halves of halves, so that it stays flat."""
    if len(formulas) == 1:
        return formulas[0]
    half = len(formulas) // 2
    return ("sum", sum_of(formulas[:half]), sum_of(formulas[half:]))


def works_of(stages, pictures=("base", "spare")):
    return Works(10, [(name, 4, 4, 0) for name in pictures], stages)


def cells(one):
    left, top, right, bottom = one
    return [(x, y) for y in range(top, bottom) for x in range(left, right)]


def ladder():
    """Three stages one below the other, and one that reads nothing."""
    return works_of([
        ("first", ("sum", read("base", -1, 0), read("base", 2, 0))),
        ("second", ("sum", read("first", 0, -2), read("first", 0, 1))),
        ("lone", ("sum", X, ("number", 3))),
        ("third", ("sum", read("second", 1, 1), read("base", -3, 3))),
    ])


def eight_of_eight():
    steps = [(-3, -3), (3, -3), (-3, 3), (3, 3), (0, -3), (0, 3), (1, 2), (-2, 0)]
    stages, above = [], "base"
    for name in "abcdefgh":
        stages.append((name, sum_of([read(above, dx, dy) for dx, dy in steps])))
        above = name
    return works_of(stages)


class Needs(unittest.TestCase):

    def test_an_asked_picture(self):
        self.assertEqual(needs(ladder(), "base", (0, 0, 2, 3)), [
            ("base", (0, 0, 2, 3)), ("spare", None), ("first", None), ("second", None), ("lone", None), ("third", None)])
        self.assertEqual(needs(ladder(), "spare", (-60, -60, -59, -59))[:2], [
            ("base", None), ("spare", (-60, -60, -59, -59))])

    def test_an_asked_stage_and_those_below_it(self):
        self.assertEqual(needs(ladder(), "first", (0, 0, 2, 3)), [
            ("base", (-1, 0, 4, 3)), ("spare", None), ("first", (0, 0, 2, 3)), ("second", None), ("lone", None),
            ("third", None)])
        self.assertEqual(needs(ladder(), "second", (0, 0, 2, 3)), [
            ("base", (-1, -2, 4, 4)), ("spare", None), ("first", (0, -2, 2, 4)), ("second", (0, 0, 2, 3)), ("lone", None),
            ("third", None)])
        self.assertEqual(needs(ladder(), "third", (0, 0, 2, 3)), [
            ("base", (-3, -1, 5, 6)), ("spare", None), ("first", (1, -1, 3, 5)), ("second", (1, 1, 3, 4)), ("lone", None),
            ("third", (0, 0, 2, 3))])

    def test_a_stage_that_reads_nothing(self):
        self.assertEqual(needs(ladder(), "lone", (5, 6, 7, 8)), [
            ("base", None), ("spare", None), ("first", None), ("second", None), ("lone", (5, 6, 7, 8)), ("third", None)])

    def test_pictures_in_the_works_order(self):
        works = works_of([("s", sum_of([read("b", 1, 0), read("a", 0, 1)]))], ("c", "a", "b"))
        self.assertEqual(needs(works, "s", (0, 0, 1, 1)), [
            ("c", None), ("a", (0, 1, 1, 2)), ("b", (1, 0, 2, 1)), ("s", (0, 0, 1, 1))])

    def test_outside_of_a_pictures_width_and_height(self):
        works = works_of([("s", sum_of([read("base", 3, 3), read("base", -3, -3)]))])
        self.assertEqual(needs(works, "s", (90, -60, 100, -50))[0], ("base", (87, -63, 103, -47)))
        self.assertEqual(needs(works, "s", (-60, 99, -59, 100))[0], ("base", (-63, 96, -56, 103)))

    def test_reads_that_a_pick_does_not_take(self):
        works = works_of([("s", ("pick", ("number", 0), read("base", -2, 0), read("spare", 0, 2)))])
        self.assertEqual(needs(works, "s", (0, 0, 1, 1))[:2], [("base", (-2, 0, -1, 1)), ("spare", (0, 2, 1, 3))])

    def test_reads_that_come_to_the_same_cell(self):
        works = works_of([("s", ("less", read("base", 1, 1), read("base", 1, 1)))])
        self.assertEqual(needs(works, "s", (0, 0, 1, 1))[0], ("base", (1, 1, 2, 2)))
        self.assertEqual(touched(works, "s", (0, 0, 1, 1), "base"), [(1, 1)])

    def test_kinds_and_that_the_told_is_the_askers_own(self):
        works = ladder()
        told = needs(works, "second", (0, 0, 2, 3))
        self.assertIs(type(told), list)
        self.assertTrue(all(type(pair) is tuple and len(pair) == 2 for pair in told))
        kept = list(told)
        told.clear()
        self.assertEqual(needs(works, "second", (0, 0, 2, 3)), kept)


class Touched(unittest.TestCase):

    def holes(self):
        return works_of([("s", sum_of([read("base", 3, 1), read("base", -3, 0), read("base", 0, -2)]))])

    def test_holes(self):
        self.assertEqual(needs(self.holes(), "s", (0, 0, 1, 1))[0], ("base", (-3, -2, 4, 2)))
        self.assertEqual(touched(self.holes(), "s", (0, 0, 1, 1), "base"), [(0, -2), (-3, 0), (3, 1)])
        self.assertEqual(touched(self.holes(), "s", (0, 0, 2, 1), "base"), [
            (0, -2), (1, -2), (-3, 0), (-2, 0), (3, 1), (4, 1)])

    def test_by_y_then_x_each_once(self):
        told = touched(self.holes(), "s", (0, 0, 4, 3), "base")
        self.assertEqual(told, sorted(set(told), key=lambda cell: (cell[1], cell[0])))
        wanted = {(x + dx, y + dy) for x, y in cells((0, 0, 4, 3)) for dx, dy in ((3, 1), (-3, 0), (0, -2))}
        self.assertEqual(set(told), wanted)
        self.assertLess(len(told), 36)

    def test_the_asked_one_itself(self):
        for name in ("base", "spare", "first", "lone", "third"):
            self.assertEqual(touched(ladder(), name, (-2, 5, 1, 7), name), cells((-2, 5, 1, 7)))

    def test_a_stage_between(self):
        self.assertEqual(touched(ladder(), "third", (0, 0, 1, 1), "second"), [(1, 1)])
        self.assertEqual(touched(ladder(), "third", (0, 0, 1, 1), "first"), [(1, -1), (1, 2)])
        self.assertEqual(touched(ladder(), "third", (0, 0, 1, 1), "base"), [(0, -1), (3, -1), (0, 2), (3, 2), (-3, 3)])

    def test_nothing_touched(self):
        for other in ("spare", "second", "lone", "third"):
            self.assertEqual(touched(ladder(), "first", (0, 0, 2, 2), other), [])
        self.assertEqual(touched(ladder(), "base", (0, 0, 2, 2), "first"), [])

    def test_kinds_and_that_the_told_is_the_askers_own(self):
        works = ladder()
        told = touched(works, "third", (0, 0, 1, 1), "first")
        self.assertIs(type(told), list)
        self.assertTrue(all(type(cell) is tuple for cell in told))
        told.append((9, 9))
        self.assertEqual(touched(works, "third", (0, 0, 1, 1), "first"), [(1, -1), (1, 2)])


class Chain(unittest.TestCase):

    def check(self, works, name, one, other):
        """A chain for each side, looked at link by link."""
        for side in SIDES:
            links = chain(works, name, one, other, side)
            self.assertIs(type(links), list)
            self.assertTrue(all(type(link) is tuple and len(link) == 3 for link in links))
            self.assertEqual(links[0][0], name)
            self.assertIn(links[0][1:], cells(one))
            for (reader, x, y), link in zip(links, links[1:]):
                self.assertIn(link, [(above, x + dx, y + dy) for above, dx, dy in reads_of(works.formula(reader))])
            self.assertEqual(links[-1][0], other)
            self.check_side(dict(needs(works, name, one))[other], side, links[-1])

    def check_side(self, needed, side, last):
        left, top, right, bottom = needed
        wanted = {"left": (1, left), "top": (2, top), "right": (1, right - 1), "bottom": (2, bottom - 1)}
        place, number = wanted[side]
        self.assertEqual(last[place], number, side)

    def test_the_asked_one_itself(self):
        for name in ("base", "first", "lone", "third"):
            self.check(ladder(), name, (-1, 2, 3, 7), name)
        self.assertEqual(chain(ladder(), "third", (5, 6, 6, 7), "third", "left"), [("third", 5, 6)])

    def test_a_stage_between_and_a_picture(self):
        for other in ("second", "first", "base"):
            self.check(ladder(), "third", (0, 0, 2, 3), other)
            self.check(ladder(), "third", (-60, 99, -50, 100), other)
        self.check(ladder(), "second", (0, 0, 2, 3), "base")
        self.check(ladder(), "first", (0, 0, 2, 3), "base")

    def test_the_only_chain(self):
        works = works_of([("a", read("base", 1, 0)), ("b", read("a", 0, 2)), ("c", read("b", -3, -1))])
        for side in SIDES:
            self.assertEqual(chain(works, "c", (5, 5, 6, 6), "base", side), [
                ("c", 5, 5), ("b", 2, 4), ("a", 2, 6), ("base", 3, 6)])

    def test_each_side_by_a_way_of_its_own(self):
        works = works_of([
            ("a", read("base", -3, 0)), ("b", read("base", 3, 0)), ("c", read("base", 0, -3)), ("d", read("base", 0, 3)),
            ("all", sum_of([read("a"), read("b"), read("c"), read("d")])),
        ])
        for side, way, last in (("left", "a", ("base", -3, 0)), ("right", "b", ("base", 3, 0)),
                                ("top", "c", ("base", 0, -3)), ("bottom", "d", ("base", 0, 3))):
            self.assertEqual(chain(works, "all", (0, 0, 1, 1), "base", side), [("all", 0, 0), (way, 0, 0), last])

    def test_holes(self):
        works = works_of([("a", sum_of([read("base", 3, 1), read("base", -3, 0), read("base", 0, -2)])),
                          ("b", sum_of([read("a", 2, 3), read("a", -1, -3), read("base", 0, 0)]))])
        self.check(works, "b", (0, 0, 1, 1), "base")
        self.check(works, "b", (3, -2, 6, 1), "base")

    def test_none_where_nothing_is_touched(self):
        for side in SIDES:
            for other in ("spare", "second", "lone", "third"):
                self.assertIsNone(chain(ladder(), "first", (0, 0, 2, 2), other, side))
            self.assertIsNone(chain(ladder(), "base", (0, 0, 2, 2), "first", side))

    def test_the_told_is_the_askers_own(self):
        works = ladder()
        kept = chain(works, "third", (0, 0, 2, 3), "base", "left")
        chain(works, "third", (0, 0, 2, 3), "base", "left").clear()
        self.assertEqual(chain(works, "third", (0, 0, 2, 3), "base", "left"), kept)

    def test_eight_stages_of_eight_reads(self):
        works, begun = eight_of_eight(), time.process_time()
        told = dict(needs(works, "h", (0, 0, 20, 20)))
        for steps, name in enumerate("hgfedcba"):
            self.assertEqual(told[name], (-3 * steps, -3 * steps, 20 + 3 * steps, 20 + 3 * steps))
        self.assertEqual(told["base"], (-24, -24, 44, 44))
        self.assertEqual(len(touched(works, "h", (0, 0, 20, 20), "a")), 62 * 62)
        self.check(works, "h", (0, 0, 20, 20), "base")
        self.check(works, "h", (-60, 7, 100, 9), "base")
        self.assertLess(time.process_time() - begun, 10)


class Refusals(unittest.TestCase):

    def test_nothing_has_the_name(self):
        for name in ("", "none", "Base", "base ", "sum", "x"):
            with self.assertRaises(NoStage):
                needs(ladder(), name, (0, 0, 1, 1))
            for one, other in ((name, "base"), ("third", name), (name, name)):
                with self.assertRaises(NoStage):
                    touched(ladder(), one, (0, 0, 1, 1), other)
                for side in SIDES:
                    with self.assertRaises(NoStage):
                        chain(ladder(), one, (0, 0, 1, 1), other, side)


if __name__ == "__main__":
    unittest.main()
