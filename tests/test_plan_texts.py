"""Point 25: plans as texts, written, read, and refused."""

import copy
import itertools
import unittest

from stripmill.errors import BadText
from stripmill.texts import plan_read, plan_shown

PLANS = {
    "": [],
    "a in": [("a", "in")],
    "a whole": [("a", "whole")],
    "a strip": [("a", "strip")],
    "a in, b whole, c strip": [("a", "in"), ("b", "whole"), ("c", "strip")],
    "abcdefghijkl strip, z in": [("abcdefghijkl", "strip"), ("z", "in")],
    "a in, a in, a strip": [("a", "in"), ("a", "in"), ("a", "strip")],
    "in in, whole strip, strip whole": [("in", "in"), ("whole", "strip"), ("strip", "whole")],
    ", ".join(["a in"] * 500): [("a", "in")] * 500,
}


class ThereAndBack(unittest.TestCase):

    def test_plans(self):
        for text, plan in PLANS.items():
            before = copy.deepcopy(plan)
            self.assertEqual(plan_shown(plan), text)
            self.assertEqual(plan_read(text), plan)
            self.assertEqual(plan, before)

    def test_all_ways_of_three_stages(self):
        for ways in itertools.product(("in", "whole", "strip"), repeat=3):
            plan = list(zip(("far", "near", "here"), ways))
            self.assertEqual(plan_read(plan_shown(plan)), plan)

    def test_kinds_and_that_the_told_is_the_askers_own(self):
        for text in PLANS:
            told = plan_read(text)
            self.assertIs(type(told), list)
            self.assertTrue(all(type(pair) is tuple and len(pair) == 2 for pair in told))
            told.append("changed")
            self.assertEqual(plan_read(text), PLANS[text])
            self.assertIs(type(plan_shown(PLANS[text])), str)


class Refused(unittest.TestCase):

    def assert_bad(self, text):
        with self.assertRaises(BadText, msg=repr(text)) as caught:
            plan_read(text)
        self.assertEqual(caught.exception.row, 0, text)
        self.assertIs(type(caught.exception.row), int)

    def test_signs_too_many_or_too_few(self):
        """None of these is a plan with another name: a letter more or less is not tried."""
        text = "a in, b whole"
        for place in range(len(text) + 1):
            for sign in " ,\n\t;.-1A":
                self.assert_bad(text[:place] + sign + text[place:])
            if text[place:place + 1] in (" ", ","):
                self.assert_bad(text[:place] + text[place + 1:])

    def test_bits_of_a_plan(self):
        for text in (" ", ",", ", ", "a", "in", "a ", " in", "a in,", "a in, ", ", a in", "a in, , b in", "a in b in",
                     "a in,b in", "a in ,b in", "a in , b in", "a in,  b in", "a  in", "a, in", "a,in", "a=in", "a in in",
                     "a in\n", "\na in", "a in\nb in", "a in, b in\n", "\n", "\n\n", "(a, in)", "[]", "None"):
            self.assert_bad(text)

    def test_ways_that_are_none(self):
        for way in ("", "In", "IN", "ins", "i", "keep", "inn", "holes", "strips", "stripe", "wholes", "1", "in.", "~"):
            self.assert_bad(f"a {way}")
            self.assert_bad(f"a in, b {way}")
            self.assert_bad(f"a {way}, b in")

    def test_names_that_are_none(self):
        for name in ("", "A", "aB", "a1", "1", "a_b", "a-b", "abcdefghijklm", "a" * 100, "~", "`", "{", "a.", "'a'"):
            self.assert_bad(f"{name} in")
            self.assert_bad(f"a in, {name} strip")
            self.assert_bad(f"{name} whole, b in")

    def test_a_wrong_pair_behind_many_good_ones(self):
        good = ", ".join(["a in"] * 300)
        self.assertEqual(len(plan_read(good)), 300)
        self.assert_bad(good + ", a")
        self.assert_bad(good + ",")


if __name__ == "__main__":
    unittest.main()
