"""Point 10: rectangles, each function looked at cell by cell too."""

import itertools
import unittest

from stripmill.rectangles import hull, many, meet, moved, rectangle, within, without

FAR = 10 ** 60 - 1
ONE = (2, 3, 6, 8)


def cells(one):
    if one is None:
        return set()
    left, top, right, bottom = one
    return {(x, y) for x in range(left, right) for y in range(top, bottom)}


def small():
    """All rectangles with sides from 0 to 4, and None."""
    spans = [(low, high) for low in range(5) for high in range(low + 1, 5)]
    return [None] + [(left, top, right, bottom) for left, right in spans for top, bottom in spans]


class Rectangle(unittest.TestCase):

    def test_ordinary(self):
        self.assertEqual(rectangle(2, 3, 6, 8), ONE)
        self.assertEqual(rectangle(-300, -300, 500, 500), (-300, -300, 500, 500))
        self.assertEqual(rectangle(0, 0, 1, 1), (0, 0, 1, 1))
        self.assertIs(type(rectangle(0, 0, 1, 1)), tuple)

    def test_empty(self):
        for left, top, right, bottom in ((0, 0, 0, 1), (0, 0, 1, 0), (0, 0, 0, 0), (1, 0, 0, 1), (0, 1, 1, 0),
                                         (5, 5, -5, -5), (-1, 0, -1, 9), (0, 500, 500, -300)):
            self.assertIsNone(rectangle(left, top, right, bottom))

    def test_any_numbers(self):
        self.assertEqual(rectangle(-FAR, -FAR, FAR, FAR), (-FAR, -FAR, FAR, FAR))
        self.assertEqual(rectangle(-FAR, FAR - 1, 1 - FAR, FAR), (-FAR, FAR - 1, 1 - FAR, FAR))
        self.assertIsNone(rectangle(FAR, 0, -FAR, 1))
        self.assertIsNone(rectangle(FAR, 0, FAR, 1))


class Moved(unittest.TestCase):

    def test_moved(self):
        self.assertEqual(moved(ONE, 0, 0), ONE)
        self.assertEqual(moved(ONE, 1, 0), (3, 3, 7, 8))
        self.assertEqual(moved(ONE, 0, 1), (2, 4, 6, 9))
        self.assertEqual(moved(ONE, -5, -7), (-3, -4, 1, 1))
        self.assertEqual(moved(ONE, FAR, -FAR), (2 + FAR, 3 - FAR, 6 + FAR, 8 - FAR))

    def test_none(self):
        for dx, dy in ((0, 0), (1, 2), (-FAR, FAR)):
            self.assertIsNone(moved(None, dx, dy))


class Meet(unittest.TestCase):

    def test_none_in_each_place(self):
        self.assertIsNone(meet(None, ONE))
        self.assertIsNone(meet(ONE, None))
        self.assertIsNone(meet(None, None))

    def test_touching_without_a_cell_in_common(self):
        for other in ((0, 3, 2, 8), (6, 3, 9, 8), (2, 0, 6, 3), (2, 8, 6, 9), (0, 0, 2, 3), (6, 8, 9, 9), (9, 3, 12, 8)):
            self.assertIsNone(meet(ONE, other))
            self.assertIsNone(meet(other, ONE))

    def test_one_within_the_other(self):
        for inner in ((3, 4, 5, 6), (2, 3, 3, 4), (5, 7, 6, 8), ONE):
            self.assertEqual(meet(ONE, inner), inner)
            self.assertEqual(meet(inner, ONE), inner)

    def test_crossing_on_each_side(self):
        for other, both in (((0, 4, 3, 6), (2, 4, 3, 6)), ((5, 4, 9, 6), (5, 4, 6, 6)), ((3, 0, 5, 4), (3, 3, 5, 4)),
                            ((3, 7, 5, 11), (3, 7, 5, 8)), ((0, 0, 3, 4), (2, 3, 3, 4)), ((5, 7, 9, 9), (5, 7, 6, 8)),
                            ((3, 0, 5, 11), (3, 3, 5, 8)), ((0, 4, 9, 6), (2, 4, 6, 6))):
            self.assertEqual(meet(ONE, other), both)
            self.assertEqual(meet(other, ONE), both)


class Hull(unittest.TestCase):

    def test_none_in_each_place(self):
        self.assertEqual(hull(None, ONE), ONE)
        self.assertEqual(hull(ONE, None), ONE)
        self.assertIsNone(hull(None, None))

    def test_hull(self):
        for other, wanted in ((ONE, ONE), ((3, 4, 5, 6), ONE), ((6, 3, 9, 8), (2, 3, 9, 8)), ((0, 4, 3, 6), (0, 3, 6, 8)),
                              ((3, 0, 5, 11), (2, 0, 6, 11)), ((-9, 20, -8, 21), (-9, 3, 6, 21)),
                              ((0, 0, 9, 9), (0, 0, 9, 9))):
            self.assertEqual(hull(ONE, other), wanted)
            self.assertEqual(hull(other, ONE), wanted)


class Within(unittest.TestCase):

    def test_none_in_each_place(self):
        self.assertIs(within(None, ONE), True)
        self.assertIs(within(None, None), True)
        self.assertIs(within(ONE, None), False)

    def test_within(self):
        for inner in (ONE, (3, 4, 5, 6), (2, 3, 3, 4), (5, 7, 6, 8)):
            self.assertIs(within(inner, ONE), True)
        for other in ((1, 3, 6, 8), (2, 2, 6, 8), (2, 3, 7, 8), (2, 3, 6, 9), (0, 0, 1, 1), (6, 3, 7, 8), (0, 0, 9, 9)):
            self.assertIs(within(other, ONE), False)
        self.assertIs(within(ONE, (3, 4, 5, 6)), False)


class Many(unittest.TestCase):

    def test_many(self):
        self.assertEqual(many(None), 0)
        self.assertEqual(many(ONE), 20)
        self.assertEqual(many((0, 0, 1, 1)), 1)
        self.assertEqual(many((-300, -300, 500, 500)), 640000)
        self.assertEqual(many((-3, -7, -1, 4)), 22)


class Without(unittest.TestCase):

    def test_none_in_each_place(self):
        self.assertEqual(without(None, ONE), [])
        self.assertEqual(without(None, None), [])
        self.assertEqual(without(ONE, None), [ONE])

    def test_no_cell_in_common(self):
        for other in ((0, 3, 2, 8), (6, 3, 9, 8), (2, 0, 6, 3), (2, 8, 6, 9), (6, 8, 9, 9), (50, 50, 60, 60)):
            self.assertEqual(without(ONE, other), [ONE])

    def test_all_cells_in_common(self):
        self.assertEqual(without(ONE, ONE), [])
        self.assertEqual(without(ONE, (0, 0, 9, 9)), [])

    def test_order_of_all_four(self):
        self.assertEqual(without(ONE, (3, 4, 5, 6)), [(2, 3, 6, 4), (2, 4, 3, 6), (5, 4, 6, 6), (2, 6, 6, 8)])

    def test_crossing_on_each_side(self):
        self.assertEqual(without(ONE, (0, 4, 3, 6)), [(2, 3, 6, 4), (3, 4, 6, 6), (2, 6, 6, 8)])
        self.assertEqual(without(ONE, (5, 4, 9, 6)), [(2, 3, 6, 4), (2, 4, 5, 6), (2, 6, 6, 8)])
        self.assertEqual(without(ONE, (3, 0, 5, 4)), [(2, 3, 3, 4), (5, 3, 6, 4), (2, 4, 6, 8)])
        self.assertEqual(without(ONE, (3, 7, 5, 11)), [(2, 3, 6, 7), (2, 7, 3, 8), (5, 7, 6, 8)])
        self.assertEqual(without(ONE, (0, 4, 9, 6)), [(2, 3, 6, 4), (2, 6, 6, 8)])
        self.assertEqual(without(ONE, (3, 0, 5, 11)), [(2, 3, 3, 8), (5, 3, 6, 8)])
        self.assertEqual(without(ONE, (0, 0, 3, 4)), [(3, 3, 6, 4), (2, 4, 6, 8)])
        self.assertEqual(without(ONE, (0, 0, 9, 4)), [(2, 4, 6, 8)])
        self.assertEqual(without(ONE, (0, 7, 9, 9)), [(2, 3, 6, 7)])

    def test_what_is_told_is_the_askers_own(self):
        told = without(ONE, (3, 4, 5, 6))
        told.clear()
        self.assertEqual(len(without(ONE, (3, 4, 5, 6))), 4)
        lone = without(ONE, None)
        lone.append(None)
        self.assertEqual(without(ONE, None), [ONE])


class CellByCell(unittest.TestCase):

    def test_every_pair_of_small_ones(self):
        for one, other in itertools.product(small(), repeat=2):
            mine, others = cells(one), cells(other)
            self.assertEqual(cells(meet(one, other)), mine & others)
            self.assertIs(within(one, other), mine <= others)
            self.check_hull(one, other, mine | others)
            parts = without(one, other)
            self.assertNotIn(None, parts)
            left = [cell for part in parts for cell in cells(part)]
            self.assertEqual(len(left), len(set(left)))
            self.assertEqual(set(left), mine - others)
            self.assertEqual(sum(many(part) for part in parts), len(mine - others))

    def check_hull(self, one, other, both):
        told = hull(one, other)
        self.assertLessEqual(both, cells(told))
        if told is not None:
            left, top, right, bottom = told
            for side in ((left + 1, top, right, bottom), (left, top + 1, right, bottom), (left, top, right - 1, bottom),
                         (left, top, right, bottom - 1)):
                self.assertFalse(both <= cells(side))

    def test_every_small_one(self):
        for one in small():
            self.assertEqual(many(one), len(cells(one)))
            for dx, dy in ((0, 0), (3, -2), (-7, 1)):
                self.assertEqual(cells(moved(one, dx, dy)), {(x + dx, y + dy) for x, y in cells(one)})


if __name__ == "__main__":
    unittest.main()
