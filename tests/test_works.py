"""Points 6 and 7, and what points 2 and 3 say of lists that are handed in and told, and of the order of refusals."""

import copy
import unittest

from stripmill.errors import (BadCount, BadName, BadNumber, BadSize, BadStep, MillError, NoDeed, NoMeasure, NoStage,
                              Twice)
from stripmill.works import Works

GREAT = 10 ** 60 - 1
X = ("x",)
BASE = ("read", "base", 0, 0)
GOOD_NAMES = ("a", "z", "abcdefghijkl", "zzzzzzzzzzzz")
BAD_NAMES = ("", "abcdefghijklm", "A", "Base", "basE", "a1", "1a", "0", " ", "a b", "a ", " a", "a-b", "a\n", "`", "{")
COUNTS = {"number": 1, "x": 0, "y": 0, "read": 3, "sum": 2, "less": 2, "times": 2, "least": 2, "most": 2, "pick": 3}
NO_WORDS = ("", "add", "Sum", "SUM", "sum ", " sum", "z", "xx", "reads", "cell", "base", "none", "deed", "formula")
# One of each refusal of a formula.
FAULTS = {
    NoDeed: ("plus", X, X),
    BadCount: ("sum", X),
    BadNumber: ("number", -1),
    NoStage: ("read", "nowhere", 0, 0),
    BadStep: ("read", "base", 4, 0),
}


def with_formula(formula):
    return Works(10, [("base", 4, 3, 7)], [("first", formula)])


def names(count):
    return ["n" + "abcdefghij"[k] for k in range(count)]


class Refused(unittest.TestCase):

    def assert_refused(self, refusal, measure, pictures, stages):
        with self.assertRaises(MillError) as caught:
            Works(measure, pictures, stages)
        self.assertIs(type(caught.exception), refusal, (measure, pictures, stages))

    def assert_formula_refused(self, refusal, formula):
        self.assert_refused(refusal, 10, [("base", 4, 3, 7)], [("first", formula)])


class EachRefusalAlone(Refused):

    def test_measure(self):
        for measure in (2, 3, 10 ** 60 - 1, 10 ** 60):
            self.assertEqual(Works(measure, [("base", 4, 3, 7)], [("first", X)]).measure, measure)
        for measure in (1, 0, -1, -2, -10 ** 60, 10 ** 60 + 1):
            self.assert_refused(NoMeasure, measure, [("base", 4, 3, 7)], [("first", X)])

    def test_how_many_pictures(self):
        for count in range(1, 5):
            pictures = [(name, 1, 1, 0) for name in names(count)]
            self.assertEqual(Works(10, pictures, [("first", X)]).pictures(), names(count))
        for count in (0, 5, 6):
            self.assert_refused(BadCount, 10, [(name, 1, 1, 0) for name in names(count)], [("first", X)])

    def test_how_many_stages(self):
        for count in range(1, 9):
            stages = [(name, X) for name in names(count)]
            self.assertEqual(Works(10, [("base", 1, 1, 0)], stages).stages(), names(count))
        for count in (0, 9, 10):
            self.assert_refused(BadCount, 10, [("base", 1, 1, 0)], [(name, X) for name in names(count)])

    def test_names(self):
        for name in GOOD_NAMES:
            self.assertEqual(Works(10, [(name, 1, 1, 0)], [("first", X)]).pictures(), [name])
            self.assertEqual(Works(10, [("base", 1, 1, 0)], [(name, X)]).stages(), [name])
        for name in BAD_NAMES:
            self.assert_refused(BadName, 10, [(name, 1, 1, 0)], [("first", X)])
            self.assert_refused(BadName, 10, [("base", 1, 1, 0), (name, 1, 1, 0)], [("first", X)])
            self.assert_refused(BadName, 10, [("base", 1, 1, 0)], [(name, X)])
            self.assert_refused(BadName, 10, [("base", 1, 1, 0)], [("first", X), (name, X)])

    def test_words_of_formulas_are_names_too(self):
        made = Works(10, [(word, 1, 1, 0) for word in ("x", "y", "sum")], [("read", ("read", "sum", 0, 0)), ("number", X)])
        self.assertEqual((made.pictures(), made.stages()), (["x", "y", "sum"], ["read", "number"]))

    def test_a_name_twice(self):
        one, two, three = ("one", 1, 1, 0), ("two", 2, 2, 0), ("three", 3, 3, 0)
        self.assert_refused(Twice, 10, [one, one], [("first", X)])
        self.assert_refused(Twice, 10, [one, ("one", 9, 9, 9)], [("first", X)])
        self.assert_refused(Twice, 10, [one, two, three, ("one", 1, 1, 0)], [("first", X)])
        self.assert_refused(Twice, 10, [one, two, three, ("three", 1, 1, 0)], [("first", X)])
        for name in ("one", "two", "three"):
            self.assert_refused(Twice, 10, [one, two, three], [(name, X)])
            self.assert_refused(Twice, 10, [one, two, three], [("first", X), (name, X)])
        self.assert_refused(Twice, 10, [one], [("first", X), ("first", X)])
        self.assert_refused(Twice, 10, [one], [("first", X), ("second", X), ("third", X), ("first", BASE)])

    def test_size(self):
        for side in (1, 2, 39, 40):
            self.assertEqual(Works(10, [("base", side, 1, 0)], [("first", X)]).size("base"), (side, 1))
            self.assertEqual(Works(10, [("base", 40, side, 0)], [("first", X)]).size("base"), (40, side))
        for side in (0, -1, -40, 41, 42, 10 ** 59):
            self.assert_refused(BadSize, 10, [("base", side, 1, 0)], [("first", X)])
            self.assert_refused(BadSize, 10, [("base", 1, side, 0)], [("first", X)])
            self.assert_refused(BadSize, 10, [("base", side, side, 0)], [("first", X)])

    def test_rim(self):
        for rim in (0, 1, 9, 10, GREAT):
            self.assertEqual(Works(10, [("base", 1, 1, rim)], [("first", X)]).rim("base"), rim)
        for rim in (-1, -GREAT, GREAT + 1, GREAT + 2):
            self.assert_refused(BadNumber, 10, [("base", 1, 1, rim)], [("first", X)])

    def test_numbers_in_formulas(self):
        for n in (0, 1, 10, GREAT):
            self.assertEqual(with_formula(("number", n)).formula("first"), ("number", n))
        for n in (-1, -GREAT, GREAT + 1, GREAT + 2):
            self.assert_formula_refused(BadNumber, ("number", n))
            self.assert_formula_refused(BadNumber, ("sum", X, ("least", ("number", n), X)))

    def test_steps(self):
        for dx in range(-3, 4):
            for dy in range(-3, 4):
                self.assertEqual(with_formula(("read", "base", dx, dy)).formula("first"), ("read", "base", dx, dy))
        for far in (-10 ** 59, -5, -4, 4, 5, 10 ** 59):
            self.assert_formula_refused(BadStep, ("read", "base", far, 0))
            self.assert_formula_refused(BadStep, ("read", "base", 0, far))
            self.assert_formula_refused(BadStep, ("read", "base", far, 3))
            self.assert_formula_refused(BadStep, ("read", "base", -far, far))

    def test_reads_of_what_is_not_above(self):
        pictures = [("base", 4, 3, 7), ("other", 1, 1, 1)]
        for name in ("second", "third", "nowhere", "", "Base", "base ", "a longer text", "x"):
            self.assert_refused(NoStage, 10, pictures, [
                ("first", BASE), ("second", ("read", name, 0, 0)), ("third", X)])
        for name in ("base", "other", "first"):
            made = Works(10, pictures, [("first", BASE), ("second", ("read", name, 0, 0)), ("third", X)])
            self.assertEqual(made.formula("second"), ("read", name, 0, 0))
        self.assert_formula_refused(NoStage, ("read", "first", 0, 0))
        self.assert_formula_refused(NoStage, ("sum", BASE, ("times", X, ("read", "first", 1, 0))))

    def test_words_that_are_none(self):
        for word in NO_WORDS:
            for behind in ((), (1,), (X,), (X, X), (X, X, X), ("base", 0, 0)):
                self.assert_formula_refused(NoDeed, (word,) + behind)
                self.assert_formula_refused(NoDeed, ("most", X, (word,) + behind))

    def test_too_few_and_too_many_behind_each_word(self):
        right = {"number": (5,), "read": ("base", 0, 0)}
        for word, wanted in COUNTS.items():
            behind = right.get(word, (X,) * wanted)
            with_formula((word,) + behind)
            for count in range(7):
                if count != wanted:
                    with self.subTest(word=word, count=count):
                        self.assert_formula_refused(BadCount, (word,) + (behind + (X, 1, "base", X, X, X))[:count])
                        self.assert_formula_refused(BadCount, ("less", X, (word,) + (X,) * count))

    def test_things_behind_that_are_not_looked_into(self):
        things = [("plus",), ("number", -1), ("read", "nowhere", 9, 9), ("sum",), -1, GREAT + 1, "nowhere", ()]
        for thing in things:
            for word in NO_WORDS:
                self.assert_formula_refused(NoDeed, (word, thing))
                self.assert_formula_refused(NoDeed, (word, thing, thing))
                self.assert_formula_refused(NoDeed, (word, thing, thing, thing))
            for word, wanted in COUNTS.items():
                for count in range(6):
                    if count != wanted:
                        self.assert_formula_refused(BadCount, (word,) + (thing,) * count)

    def test_somewhat_beyond_the_bounds_of_formulas_nothing_is_refused(self):
        formula = BASE
        for turn in range(40):
            formula = ("sum", formula, BASE)
        self.assertEqual(with_formula(formula).formula("first"), formula)


class OrderOfRefusals(Refused):

    def spec(self):
        return {
            "measure": 10,
            "pictures": [["one", 4, 3, 7], ["two", 2, 2, 0]],
            "stages": [["first", ("read", "one", 0, 0)], ["second", ("read", "first", 0, 0)]],
        }

    def put_picture(self, place, field, value):
        def put(spec):
            spec["pictures"][place][field] = value
        return put

    def put_stage(self, place, field, value):
        def put(spec):
            spec["stages"][place][field] = value
        return put

    def put_measure(self, spec):
        spec["measure"] = 1

    def more_pictures(self, spec):
        spec["pictures"].extend([["more" + sign, 1, 1, 0] for sign in "abc"])

    def more_stages(self, spec):
        spec["stages"].extend([["more" + sign, X] for sign in "abcdefg"])

    def faults(self):
        """(what is changed, the refusal, the change), in the order told."""
        told = [("measure", NoMeasure, self.put_measure), ("pictures", BadCount, self.more_pictures)]
        for place in (0, 1):
            told.append((("picture", place, 0), BadName, self.put_picture(place, 0, "One")))
            if place == 1:
                told.append((("picture", place, 0), Twice, self.put_picture(place, 0, "one")))
            told.append((("picture", place, 1), BadSize, self.put_picture(place, 1, 0)))
            told.append((("picture", place, 2), BadSize, self.put_picture(place, 2, 41)))
            told.append((("picture", place, 3), BadNumber, self.put_picture(place, 3, -1)))
        told.append(("stages", BadCount, self.more_stages))
        for place in (0, 1):
            told.append((("stage", place, 0), BadName, self.put_stage(place, 0, "")))
            told.append((("stage", place, 0), Twice, self.put_stage(place, 0, "two")))
            for refusal, formula in FAULTS.items():
                formula = ("read", "one", 0, -4) if refusal is BadStep else formula
                told.append((("stage", place, 1), refusal, self.put_stage(place, 1, formula)))
        return told

    def told_of(self, changes):
        spec = self.spec()
        for change in changes:
            change(spec)
        return spec["measure"], [tuple(each) for each in spec["pictures"]], [tuple(each) for each in spec["stages"]]

    def test_without_a_fault(self):
        Works(*self.told_of([]))

    def test_each_alone(self):
        for what, refusal, change in self.faults():
            self.assert_refused(refusal, *self.told_of([change]))

    def test_two_at_once(self):
        faults = self.faults()
        for k, (what, refusal, change) in enumerate(faults):
            for later_what, later_refusal, later_change in faults[k + 1:]:
                if later_what != what:
                    with self.subTest(first=(what, refusal), then=(later_what, later_refusal)):
                        self.assert_refused(refusal, *self.told_of([later_change, change]))

    def test_no_picture_ahead_of_no_stage_and_behind_the_measure(self):
        self.assert_refused(NoMeasure, 10 ** 60 + 1, [], [])
        self.assert_refused(BadCount, 10, [], [("First", X)])
        self.assert_refused(BadName, 10, [("One", 1, 1, 0)], [])
        self.assert_refused(BadSize, 10, [("one", 1, 0, 0)], [])
        self.assert_refused(BadNumber, 10, [("one", 1, 1, -1)], [])

    def test_a_picture_whole_ahead_of_the_next(self):
        self.assert_refused(BadNumber, 10, [("one", 1, 1, -1), ("Two", 0, 0, -1)], [("first", X)])
        self.assert_refused(BadSize, 10, [("one", 41, 1, -1), ("one", 1, 1, 0)], [("first", X)])
        self.assert_refused(Twice, 10, [("one", 1, 1, 0), ("one", 0, 1, -1)], [("first", X)])

    def test_a_stage_whole_ahead_of_the_next(self):
        self.assert_refused(BadStep, 10, [("base", 1, 1, 0)], [("first", ("read", "base", 0, 4)), ("Second", ("plus",))])
        self.assert_refused(NoDeed, 10, [("base", 1, 1, 0)], [("first", ("plus",)), ("first", ("number", -1))])
        self.assert_refused(Twice, 10, [("base", 1, 1, 0)], [("base", ("plus",)), ("second", X)])
        self.assert_refused(BadName, 10, [("base", 1, 1, 0)], [("first stage", ("sum",)), ("second", X)])


class OrderWithinAFormula(Refused):

    def shapes(self, leaves):
        """Formulas of six places, told from the left."""
        a, b, c, d, e, f = leaves
        return [
            ("pick", ("sum", a, ("less", b, c)), d, ("times", e, f)),
            ("least", ("most", ("pick", a, b, c), d), ("sum", e, f)),
            ("sum", a, ("sum", b, ("sum", c, ("sum", d, ("sum", e, f))))),
            ("less", ("less", ("less", ("less", ("less", a, b), c), d), e), f),
        ]

    def test_the_leftmost_of_two(self):
        for i in range(6):
            for j in range(i + 1, 6):
                for refusal, formula in FAULTS.items():
                    for later in FAULTS.values():
                        leaves = [X, ("y",), BASE, ("number", 0), BASE, X]
                        leaves[i] = formula
                        leaves[j] = later
                        for shape in self.shapes(leaves):
                            self.assert_formula_refused(refusal, shape)

    def test_each_whole_ahead_of_the_next(self):
        deep = ("sum", X, ("times", ("less", X, ("number", -1)), X))
        self.assert_formula_refused(BadNumber, ("sum", deep, ("plus",)))
        self.assert_formula_refused(BadNumber, ("pick", X, deep, ("sum",)))
        self.assert_formula_refused(NoDeed, ("sum", ("plus",), deep))

    def test_from_the_outside_inwards(self):
        for formula in FAULTS.values():
            self.assert_formula_refused(NoDeed, ("plus", formula, formula))
            self.assert_formula_refused(BadCount, ("sum", formula))
            self.assert_formula_refused(BadCount, ("sum", formula, formula, formula))
            self.assert_formula_refused(BadCount, ("pick", formula, formula))
            self.assert_formula_refused(BadCount, ("most", ("pick", formula, formula), formula))
            self.assert_formula_refused(BadCount, ("x", formula))

    def test_a_read_of_nothing_with_too_long_a_step(self):
        self.assert_formula_refused(NoStage, ("read", "nowhere", 4, 0))
        self.assert_formula_refused(NoStage, ("read", "first", 0, -4))
        self.assert_formula_refused(BadCount, ("read", "nowhere", 4))
        self.assert_formula_refused(BadCount, ("number", -1, -1))

    def test_a_name_ahead_of_its_formula(self):
        for formula in FAULTS.values():
            self.assert_refused(BadName, 10, [("base", 1, 1, 0)], [("First", formula)])
            self.assert_refused(Twice, 10, [("base", 1, 1, 0)], [("base", formula)])
            self.assert_refused(Twice, 10, [("base", 1, 1, 0)], [("first", X), ("first", formula)])


class WhatIsHandedIn(unittest.TestCase):

    def test_lists_stay_as_they_were(self):
        pictures = [("one", 4, 3, 7), ("two", 40, 1, GREAT)]
        stages = [("first", ("sum", ("read", "one", 0, 1), X)), ("second", ("read", "first", 0, 0))]
        kept = copy.deepcopy((pictures, stages))
        Works(10, pictures, stages)
        self.assertEqual((pictures, stages), kept)

    def test_lists_of_a_refused_one_stay_too(self):
        pictures = [("one", 4, 3, 7), ("two", 1, 1, 0)]
        for formula in FAULTS.values():
            stages = [("first", X), ("second", formula)]
            kept = copy.deepcopy((pictures, stages))
            with self.assertRaises(MillError):
                Works(10, pictures, stages)
            self.assertEqual((pictures, stages), kept)

    def test_lists_changed_later_change_nothing(self):
        pictures = [("one", 4, 3, 7), ("two", 2, 2, 0)]
        stages = [("first", X), ("second", ("read", "first", 0, 0))]
        made = Works(10, pictures, stages)
        pictures[0] = ("three", 9, 9, 9)
        pictures.append(("four", 1, 1, 1))
        stages[0] = ("third", ("y",))
        stages.clear()
        self.assertEqual((made.pictures(), made.stages()), (["one", "two"], ["first", "second"]))
        self.assertEqual((made.size("one"), made.rim("one"), made.formula("first")), ((4, 3), 7, X))
        for ask, name in ((made.size, "three"), (made.rim, "four"), (made.formula, "third")):
            with self.assertRaises(NoStage):
                ask(name)


class WhatAWorksTells(unittest.TestCase):

    def made(self):
        return Works(97, [("one", 4, 3, 7), ("zero", 40, 1, GREAT), ("a", 1, 40, 0)],
                     [("second", ("sum", BASE[:1] + ("a", 1, -1), X)), ("first", ("read", "second", -3, 3))])

    def test_all_six(self):
        made = self.made()
        self.assertEqual(made.measure, 97)
        self.assertEqual(made.pictures(), ["one", "zero", "a"])
        self.assertEqual(made.stages(), ["second", "first"])
        self.assertEqual([made.size(name) for name in made.pictures()], [(4, 3), (40, 1), (1, 40)])
        self.assertEqual([made.rim(name) for name in made.pictures()], [7, GREAT, 0])
        self.assertEqual(made.formula("second"), ("sum", ("read", "a", 1, -1), X))
        self.assertEqual(made.formula("first"), ("read", "second", -3, 3))

    def test_kinds(self):
        made = self.made()
        self.assertIs(type(made.measure), int)
        self.assertIs(type(made.pictures()), list)
        self.assertIs(type(made.stages()), list)
        self.assertIs(type(made.size("one")), tuple)
        self.assertIs(type(made.rim("one")), int)
        self.assertIs(type(made.formula("first")), tuple)

    def test_told_lists_are_the_askers_own(self):
        made = self.made()
        pictures, stages = made.pictures(), made.stages()
        made.pictures().clear()
        made.stages().append("third")
        self.assertEqual((pictures, stages), (["one", "zero", "a"], ["second", "first"]))
        pictures[0] = "other"
        stages.reverse()
        self.assertEqual(made.pictures(), ["one", "zero", "a"])
        self.assertEqual(made.stages(), ["second", "first"])
        self.assertEqual(made.size("one"), (4, 3))
        with self.assertRaises(NoStage):
            made.size("other")

    def test_two_side_by_side(self):
        made = self.made()
        other = Works(5, [("a", 2, 2, 3)], [("second", ("y",)), ("third", X)])
        self.assertEqual((made.measure, other.measure), (97, 5))
        self.assertEqual((made.pictures(), other.pictures()), (["one", "zero", "a"], ["a"]))
        self.assertEqual((made.stages(), other.stages()), (["second", "first"], ["second", "third"]))
        self.assertEqual((made.size("a"), other.size("a")), ((1, 40), (2, 2)))
        self.assertEqual((made.rim("a"), other.rim("a")), (0, 3))
        self.assertEqual((made.formula("second")[0], other.formula("second")), ("sum", ("y",)))
        for ask, name in ((made.formula, "third"), (other.formula, "first"), (other.size, "one"), (other.rim, "zero")):
            with self.assertRaises(NoStage):
                ask(name)

    def test_refused_for_other_texts(self):
        made = self.made()
        for ask in (made.size, made.rim):
            for name in ("first", "second", "none", "", "One", "one ", "sum", "x"):
                with self.assertRaises(NoStage):
                    ask(name)
        for name in ("one", "zero", "a", "none", "", "First", "sum", "x"):
            with self.assertRaises(NoStage):
                made.formula(name)


if __name__ == "__main__":
    unittest.main()
