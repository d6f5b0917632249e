"""Point 25: answers to texts."""

import copy
import itertools
import unittest

from stripmill.desk import answer
from stripmill.errors import BadCount, BadGiven, BadNumber, BadPlan, BadText, NoMeasure, NoStage
from stripmill.machine import made
from stripmill.meaning import picture
from stripmill.plans import fault
from stripmill.texts import plan_read, works_read

TEXT = """measure 100
picture base 3 2 7
picture mask 1 1 0
stage a = (sum (read base -1 0) (read base 1 0))
stage b = (sum (read a 0 -1) (read a 0 1))
stage c = (sum (read b 0 1) (times (read a 0 0) (read mask 0 0)))"""
GIVEN = {"base": [[1, 2, 3], [4, 5, 6]], "mask": [[1]]}
ONE = (0, 0, 3, 2)


class Answers(unittest.TestCase):

    def test_by_hand(self):
        # base is 7 7 | 1 2 3 | 7, 7 7 | 4 5 6 | 7 and 7 elsewhere; a has 9 4 9, 12 10 12, then 14 14 14.
        self.assertEqual(answer(TEXT, "", GIVEN, "a", ONE), [[9, 4, 9], [12, 10, 12]])
        # b's row 1 is a's rows 0 and 2, its row 2 a's rows 1 and 3; mask has 1 in the cell 0, 0 alone.
        self.assertEqual(answer(TEXT, "a in, b in", GIVEN, "c", ONE), [[23 + 9, 18, 23], [26, 24, 26]])
        self.assertEqual(answer(TEXT, "a strip", GIVEN, "b", (1, 1, 2, 2)), [[18]])

    def test_the_rows_that_made_tells(self):
        works, seen = works_read(TEXT), 0
        for name, above in (("a", ""), ("b", "a"), ("c", "ab")):
            for ways in itertools.product(("in", "whole", "strip"), repeat=len(above)):
                plan_text = ", ".join(f"{stage} {way}" for stage, way in zip(above, ways))
                plan = plan_read(plan_text)
                if fault(works, name, plan) is None:
                    seen += 1
                    for one in (ONE, (-2, -3, 4, 5), (-60, 99, -59, 100)):
                        told = answer(TEXT, plan_text, GIVEN, name, one)
                        self.assertEqual(told, made(works, GIVEN, name, one, plan))
                        self.assertEqual(told, picture(works, GIVEN, name, one))
        self.assertEqual(seen, 1 + 3 + 8)

    def test_kinds_and_that_nothing_is_changed(self):
        given = copy.deepcopy(GIVEN)
        told = answer(TEXT, "a whole, b strip", given, "c", ONE)
        self.assertEqual(given, GIVEN)
        self.assertIs(type(told), list)
        self.assertTrue(all(type(row) is list for row in told))
        kept = copy.deepcopy(told)
        told[0].clear()
        self.assertEqual(answer(TEXT, "a whole, b strip", given, "c", ONE), kept)
        given["base"][0][0] = 50
        self.assertEqual(kept, [[32, 18, 23], [26, 24, 26]])


class Refused(unittest.TestCase):

    def refusal(self, text=TEXT, plan_text="a in, b in", given=GIVEN, name="c"):
        """The class of the error, and the field of it where it has one."""
        with self.assertRaises(ValueError) as caught:
            answer(text, plan_text, given, name, ONE)
        error = caught.exception
        return type(error), getattr(error, "row", getattr(error, "name", None))

    def test_as_works_read(self):
        self.assertEqual(self.refusal(text=""), (BadText, 0))
        self.assertEqual(self.refusal(text=TEXT + "\n"), (BadText, 6))
        self.assertEqual(self.refusal(text=TEXT.replace("= (sum", "= (plus")), (BadText, 3))
        self.assertEqual(self.refusal(text=TEXT.replace("100", "1")), (NoMeasure, None))
        self.assertEqual(self.refusal(text="measure 100"), (BadCount, None))
        self.assertEqual(self.refusal(text=TEXT.replace("7", "1" + "0" * 60)), (BadNumber, None))

    def test_as_plan_read(self):
        for plan_text in ("a", "a in,b in", "a in, b in\n", "a in, b keep", " "):
            self.assertEqual(self.refusal(plan_text=plan_text), (BadText, 0))

    def test_as_made(self):
        for name in ("", "base", "mask", "d", "C"):
            self.assertEqual(self.refusal(name=name), (NoStage, None))
        for plan_text in ("", "a in", "b in, a in", "a in, b in, c in", "a strip, b whole", "a in, a in"):
            self.assertEqual(self.refusal(plan_text=plan_text), (BadPlan, None))
        self.assertEqual(self.refusal(given={}), (BadGiven, "base"))
        self.assertEqual(self.refusal(given={"base": GIVEN["base"]}), (BadGiven, "mask"))
        self.assertEqual(self.refusal(given={"base": [[1, 2, 3]], "mask": []}), (BadGiven, "base"))

    def test_the_first_where_several_are_wrong(self):
        """All of them at once, then one after the other mended from the first on."""
        shapes = (
            ("text", TEXT.replace("= (sum", "= (plus").replace("100", "1"), (BadText, 3)),
            ("text", TEXT.replace("100", "1"), (NoMeasure, None)),
            ("plan_text", "a in,b in", (BadText, 0)),
            ("name", "nothing", (NoStage, None)),
            ("plan_text", "a strip, b whole", (BadPlan, None)),
            ("given", {"base": []}, (BadGiven, "base")),
        )
        for count in range(1, len(shapes) + 1):
            for chosen in itertools.combinations(shapes, count):
                # From the last on, so that of two shapes of one thing the first one stays.
                wrong = {thing: value for thing, value, wanted in reversed(chosen)}
                self.assertEqual(self.refusal(**wrong), chosen[0][2], chosen)


if __name__ == "__main__":
    unittest.main()
