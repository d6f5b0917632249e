"""Points 8, 9 and 11: what is given, and what a works means by it, cell by cell and as a picture."""

import copy
import time
import unittest

from stripmill.errors import BadGiven, NoStage
from stripmill.meaning import cell, picture
from stripmill.works import Works

GREAT = 10 ** 60 - 1
X, Y = ("x",), ("y",)


def read(name, dx=0, dy=0):
    return ("read", name, dx, dy)


def three():
    """Three pictures of different sizes; nothing reads the third."""
    return Works(10, [("one", 3, 2, 7), ("two", 1, 1, 4), ("three", 2, 3, 0)],
                 [("first", ("sum", read("one"), read("two"))), ("second", read("first", 1, 0))])


def three_given():
    return {"one": [[1, 2, 3], [4, 5, 6]], "two": [[8]], "three": [[0, 0], [0, 0], [0, 0]]}


def asks():
    """Each function that takes what is given, asked for a stage's or picture's name."""
    return [lambda works, given, name: cell(works, given, name, 0, 0),
            lambda works, given, name: picture(works, given, name, (0, 0, 2, 2))]


def eight_of_eight():
    """Eight stages, each the sum of eight reads of the one above."""
    steps = [(-3, -3), (3, -3), (-3, 3), (3, 3), (0, -3), (0, 3), (1, 2), (-2, 0)]
    stages, above = [], "base"
    for name in "abcdefgh":
        pairs = [("sum", read(above, *steps[k]), read(above, *steps[k + 1])) for k in (0, 2, 4, 6)]
        stages.append((name, ("sum", ("sum", pairs[0], pairs[1]), ("sum", pairs[2], pairs[3]))))
        above = name
    return Works(10 ** 60, [("base", 40, 40, 1)], stages)


class WhatIsGiven(unittest.TestCase):

    def assert_bad(self, name, given, works=None):
        for ask in asks():
            for asked in ("first", "second", "one", "two", "three"):
                with self.assertRaises(BadGiven) as caught:
                    ask(works or three(), given, asked)
                self.assertIs(type(caught.exception), BadGiven)
                self.assertEqual(caught.exception.name, name)

    def changed(self, **lists):
        given = three_given()
        given.update(lists)
        return given

    def test_as_told(self):
        for ask in asks():
            for asked in ("first", "second", "one", "two", "three"):
                ask(three(), three_given(), asked)

    def test_a_list_that_lacks(self):
        for name in ("one", "two", "three"):
            given = three_given()
            del given[name]
            self.assert_bad(name, given)
        self.assert_bad("one", {})

    def test_rows_too_few_and_too_many(self):
        self.assert_bad("one", self.changed(one=[[1, 2, 3]]))
        self.assert_bad("one", self.changed(one=[]))
        self.assert_bad("one", self.changed(one=[[1, 2, 3], [4, 5, 6], [7, 8, 9]]))
        self.assert_bad("two", self.changed(two=[]))
        self.assert_bad("two", self.changed(two=[[8], [8]]))

    def test_numbers_too_few_and_too_many_in_a_row(self):
        self.assert_bad("one", self.changed(one=[[1, 2], [4, 5, 6]]))
        self.assert_bad("one", self.changed(one=[[1, 2, 3], [4, 5]]))
        self.assert_bad("one", self.changed(one=[[1, 2, 3, 4], [4, 5, 6]]))
        self.assert_bad("one", self.changed(one=[[1, 2, 3], [4, 5, 6, 7]]))
        self.assert_bad("one", self.changed(one=[[1, 2, 3], []]))
        self.assert_bad("two", self.changed(two=[[]]))
        self.assert_bad("two", self.changed(two=[[8, 8]]))

    def test_width_and_height_in_each_others_place(self):
        self.assert_bad("one", self.changed(one=[[1, 2], [3, 4], [5, 6]]))

    def test_also_where_nothing_of_it_is_read(self):
        self.assert_bad("three", self.changed(three=[[0, 0], [0, 0]]))
        self.assert_bad("three", self.changed(three=[[0, 0], [0, 0], [0]]))

    def test_the_first_picture_in_order(self):
        bad = [[1, 1, 1, 1]]
        self.assert_bad("one", self.changed(one=bad, two=bad, three=bad))
        self.assert_bad("two", self.changed(two=bad, three=bad))
        self.assert_bad("one", {"three": bad, "two": bad})
        given = {"three": bad, "two": [], "one": three_given()["one"]}
        self.assert_bad("two", given)

    def test_the_works_order_and_not_the_letters(self):
        works = Works(10, [("two", 1, 1, 0), ("three", 1, 1, 0), ("one", 1, 1, 0)], [("first", X), ("second", X)])
        self.assert_bad("two", {}, works)
        self.assert_bad("three", {"one": [[1, 2]], "two": [[1]]}, works)
        self.assert_bad("one", {"two": [[1]], "three": [[1]], "one": [[]]}, works)

    def test_other_names_are_not_looked_at(self):
        given = self.changed(four=[], first=[[1]], Base=None)
        for ask in asks():
            self.assertEqual(ask(three(), given, "first"), ask(three(), three_given(), "first"))

    def test_no_stage_ahead_of_bad_given(self):
        for ask in asks():
            for name in ("", "none", "First", "sum", "four"):
                for given in ({}, three_given(), self.changed(four=[[1]])):
                    with self.assertRaises(NoStage):
                        ask(three(), given, name)

    def test_what_is_handed_in_stays(self):
        given = self.changed(one=[[-1, 12, GREAT], [4, 5, 6]], more=[[1]])
        kept = copy.deepcopy(given)
        for ask in asks():
            for asked in ("first", "second", "one", "three"):
                ask(three(), given, asked)
                self.assertEqual(given, kept)


class Cells(unittest.TestCase):

    def test_a_pictures_own_cells(self):
        works, given = three(), three_given()
        self.assertEqual([cell(works, given, "one", x, 0) for x in range(3)], [1, 2, 3])
        self.assertEqual([cell(works, given, "one", x, 1) for x in range(3)], [4, 5, 6])
        self.assertIs(type(cell(works, given, "one", 0, 0)), int)

    def test_outside_on_each_side(self):
        works, given = three(), three_given()
        for x, y in ((-1, 0), (-1, 1), (3, 0), (3, 1), (0, -1), (2, -1), (0, 2), (2, 2), (-1, -1), (3, 2), (-1, 2),
                     (3, -1), (-2, 0), (0, -2), (-3, -2), (-100, -100), (200, 200), (-100, 200), (200, -100)):
            self.assertEqual(cell(works, given, "one", x, y), 7)
            self.assertEqual(cell(works, given, "two", x, y), 4)

    def test_the_rest_of_the_rim(self):
        for rim, wanted in ((0, 0), (9, 9), (10, 0), (27, 7), (GREAT, 9)):
            works = Works(10, [("base", 1, 1, rim)], [("first", read("base", 1, 0))])
            self.assertEqual(cell(works, {"base": [[3]]}, "base", 1, 0), wanted)
            self.assertEqual(cell(works, {"base": [[3]]}, "first", 0, 0), wanted)
            self.assertEqual(cell(works, {"base": [[3]]}, "first", -1, 0), 3)

    def test_numbers_below_nought_and_of_sixty_figures(self):
        numbers = [-1, -10, -11, 0, 10, 11, GREAT, -GREAT, 10 ** 59, -10 ** 59]
        for measure in (2, 7, 10, 10 ** 30 + 7, 10 ** 60):
            works = Works(measure, [("base", 10, 1, 0)], [("first", ("times", read("base"), read("base", 1, 0)))])
            rests = [number - number // measure * measure for number in numbers]
            given = {"base": [numbers]}
            self.assertEqual([cell(works, given, "base", x, 0) for x in range(10)], rests)
            self.assertEqual([cell(works, given, "first", x, 0) for x in range(10)],
                             [a * b % measure for a, b in zip(rests, rests[1:] + [0])])

    def test_x_and_y_of_a_stage(self):
        works = Works(1000, [("base", 1, 1, 0)], [("first", ("sum", X, ("times", Y, ("number", 10)))),
                                                  ("second", read("first", 2, -3))])
        given = {"base": [[0]]}
        self.assertEqual(cell(works, given, "first", 3, 4), 43)
        self.assertEqual(cell(works, given, "first", -3, 1), 7)
        self.assertEqual(cell(works, given, "first", -100, -100), 1000 - 100)
        self.assertEqual(cell(works, given, "first", 200, 200), 200)
        self.assertEqual(cell(works, given, "second", 3, 4), 15)

    def test_reads_of_stages_and_pictures_at_their_steps(self):
        works = Works(100, [("base", 4, 3, 50)], [
            ("right", read("base", 1, 0)),
            ("below", read("right", 0, 1)),
            ("less", ("less", read("below"), read("base", -1, -1))),
            ("pick", ("pick", read("base"), read("less", 1, 0), read("right", -1, 2))),
        ])
        given = {"base": [[1, 2, 3, 4], [5, 0, 7, 8], [9, 10, 11, 12]]}
        self.assertEqual(cell(works, given, "right", 0, 0), 2)
        self.assertEqual(cell(works, given, "right", 3, 0), 50)
        self.assertEqual(cell(works, given, "right", -1, 0), 1)
        self.assertEqual(cell(works, given, "below", 0, 0), 0)
        self.assertEqual(cell(works, given, "below", 1, 1), 11)
        self.assertEqual(cell(works, given, "less", 1, 1), 10)
        self.assertEqual(cell(works, given, "less", 0, 0), 50)
        self.assertEqual(cell(works, given, "pick", 0, 1), 10)
        self.assertEqual(cell(works, given, "pick", 1, 1), 50)
        self.assertEqual(cell(works, given, "pick", 0, 0), 7 - 50 + 100)

    def test_stages_go_on_outside_of_the_pictures(self):
        works = Works(1000, [("base", 1, 1, 6)], [("first", ("sum", read("base"), X)),
                                                  ("second", ("sum", read("first", -1, 0), read("first", 1, 0)))])
        given = {"base": [[9]]}
        self.assertEqual(cell(works, given, "second", 50, 0), 12 + 49 + 51)
        self.assertEqual(cell(works, given, "second", 1, 0), 9 + 6 + 2)
        self.assertEqual(cell(works, given, "second", -100, 200), (12 - 200) % 1000)

    def test_eight_stages_of_eight_reads(self):
        works = eight_of_eight()
        given = {"base": [[1] * 40 for row in range(40)]}
        begun = time.process_time()
        self.assertEqual(cell(works, given, "h", 3, 4), 8 ** 8)
        self.assertEqual(cell(works, given, "h", -100, 200), 8 ** 8)
        self.assertEqual(picture(works, given, "h", (0, 0, 20, 20)), [[8 ** 8] * 20 for row in range(20)])
        self.assertEqual(picture(works, given, "h", (-100, 9, 200, 10)), [[8 ** 8] * 300])
        self.assertLess(time.process_time() - begun, 10)

    def test_two_things_given_in_turn(self):
        works = three()
        one, other = three_given(), three_given()
        other["one"] = [[9, 9, 9], [9, 9, 9]]
        for turn in range(3):
            self.assertEqual(cell(works, one, "first", 0, 0), 9)
            self.assertEqual(cell(works, other, "first", 0, 0), 7)
            self.assertEqual(picture(works, one, "one", (0, 0, 3, 1)), [[1, 2, 3]])
            self.assertEqual(picture(works, other, "one", (0, 0, 3, 1)), [[9, 9, 9]])
        one["one"][0][0] = 5
        self.assertEqual(cell(works, one, "first", 0, 0), 3)
        with self.assertRaises(BadGiven):
            cell(works, {}, "first", 0, 0)

    def test_two_works_with_the_same_given(self):
        given = {"base": [[3, 5]]}
        one = Works(10, [("base", 2, 1, 0)], [("first", read("base", 1, 0))])
        other = Works(2, [("base", 2, 1, 1)], [("first", ("sum", read("base"), read("base", 2, 0)))])
        for turn in range(2):
            self.assertEqual(cell(one, given, "first", 0, 0), 5)
            self.assertEqual(cell(other, given, "first", 0, 0), 0)


class Pictures(unittest.TestCase):

    def setUp(self):
        self.works = Works(1000, [("base", 3, 2, 7)], [("first", ("sum", X, ("times", Y, ("number", 10)))),
                                                       ("second", ("sum", read("base"), ("number", 100)))])
        self.given = {"base": [[1, 2, 3], [4, 5, 6]]}

    def told(self, name, one):
        return picture(self.works, self.given, name, one)

    def test_rows_from_the_top_and_numbers_from_the_left(self):
        self.assertEqual(self.told("base", (0, 0, 3, 2)), [[1, 2, 3], [4, 5, 6]])
        self.assertEqual(self.told("base", (1, 0, 3, 1)), [[2, 3]])
        self.assertEqual(self.told("base", (1, 0, 2, 2)), [[2], [5]])
        self.assertEqual(self.told("base", (2, 1, 3, 2)), [[6]])
        self.assertEqual(self.told("first", (4, 2, 7, 4)), [[24, 25, 26], [34, 35, 36]])
        self.assertEqual(self.told("second", (0, 0, 3, 2)), [[101, 102, 103], [104, 105, 106]])

    def test_partly_outside(self):
        self.assertEqual(self.told("base", (-1, -1, 4, 3)), [
            [7, 7, 7, 7, 7], [7, 1, 2, 3, 7], [7, 4, 5, 6, 7], [7, 7, 7, 7, 7]])
        self.assertEqual(self.told("second", (-2, 1, 1, 3)), [[107, 107, 104], [107, 107, 107]])
        self.assertEqual(self.told("first", (-2, -1, 1, 1)), [[988, 989, 990], [998, 999, 0]])

    def test_wholly_outside(self):
        self.assertEqual(self.told("base", (3, 0, 5, 2)), [[7, 7], [7, 7]])
        self.assertEqual(self.told("base", (-100, -100, -98, -99)), [[7, 7]])
        self.assertEqual(self.told("second", (199, 199, 200, 200)), [[107]])
        self.assertEqual(self.told("base", (0, 2, 1, 5)), [[7], [7], [7]])

    def test_four_hundred_cells(self):
        self.assertEqual(self.told("first", (0, 0, 20, 20)),
                         [[x + 10 * y for x in range(20)] for y in range(20)])
        self.assertEqual(self.told("first", (-100, 0, 200, 1)), [[x % 1000 for x in range(-100, 200)]])
        self.assertEqual(self.told("first", (0, -100, 1, 200)), [[10 * y % 1000] for y in range(-100, 200)])

    def test_kinds(self):
        told = self.told("second", (0, 0, 2, 2))
        self.assertIs(type(told), list)
        for row in told:
            self.assertIs(type(row), list)
            for number in row:
                self.assertIs(type(number), int)

    def test_each_cell_as_cell_tells_it(self):
        for name in ("base", "first", "second"):
            self.assertEqual(self.told(name, (-2, -2, 5, 4)), [
                [cell(self.works, self.given, name, x, y) for x in range(-2, 5)] for y in range(-2, 4)])

    def test_told_rows_are_the_askers_own(self):
        for name, wanted in (("base", [[1, 2, 3], [4, 5, 6]]), ("second", [[101, 102, 103], [104, 105, 106]])):
            kept = self.told(name, (0, 0, 3, 2))
            told = self.told(name, (0, 0, 3, 2))
            told[0][0] = 99
            told[1].clear()
            told.append([1])
            self.assertEqual(kept, wanted)
            self.assertEqual(self.told(name, (0, 0, 3, 2)), wanted)
        self.assertEqual(self.given, {"base": [[1, 2, 3], [4, 5, 6]]})
        kept = self.told("base", (0, 0, 3, 2))
        self.given["base"][0][0] = 8
        self.assertEqual(kept, [[1, 2, 3], [4, 5, 6]])

    def test_rows_alike_are_not_one_row(self):
        told = self.told("base", (5, 5, 7, 7))
        told[0][0] = 1
        self.assertEqual(told, [[1, 7], [7, 7]])


if __name__ == "__main__":
    unittest.main()
