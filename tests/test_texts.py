"""Points 23 and 24: works as texts, written, read, and refused."""

import unittest

from stripmill.errors import (BadCount, BadName, BadNumber, BadSize, BadStep, BadText, NoMeasure, NoStage, Twice)
from stripmill.texts import works_read, works_shown
from stripmill.works import Works

SIXTY = "1234567890" * 6
NINES = "9" * 60
TEN_TO_60 = "1" + "0" * 60
MEASURE = "measure 10"
PICTURE = "picture p 3 2 7"
STAGE = "stage a = (x)"

# Every form of a formula, and the tuple that it stands for; p is a picture.
FORMULAS = {
    "(number 0)": ("number", 0),
    "(number 70)": ("number", 70),
    f"(number {SIXTY})": ("number", int(SIXTY)),
    f"(number {NINES})": ("number", 10 ** 60 - 1),
    "(x)": ("x",),
    "(y)": ("y",),
    "(read p 0 0)": ("read", "p", 0, 0),
    "(read p -3 3)": ("read", "p", -3, 3),
    "(read p 1 -1)": ("read", "p", 1, -1),
    "(sum (x) (y))": ("sum", ("x",), ("y",)),
    "(less (y) (number 5))": ("less", ("y",), ("number", 5)),
    "(times (x) (x))": ("times", ("x",), ("x",)),
    "(least (read p 2 0) (y))": ("least", ("read", "p", 2, 0), ("y",)),
    "(most (x) (read p 0 -2))": ("most", ("x",), ("read", "p", 0, -2)),
    "(pick (x) (y) (number 1))": ("pick", ("x",), ("y",), ("number", 1)),
    "(sum (sum (x) (y)) (pick (less (x) (y)) (x) (read p 1 1)))":
        ("sum", ("sum", ("x",), ("y",)), ("pick", ("less", ("x",), ("y",)), ("x",), ("read", "p", 1, 1))),
}


def text_of(*rows):
    return "\n".join(rows)


def with_formula(formula):
    return text_of(MEASURE, PICTURE, f"stage a = {formula}")


def deep(levels):
    """A formula of so many brackets within one another, as a text and as a tuple."""
    text, formula = "(x)", ("x",)
    for level in range(levels - 1):
        text, formula = f"(sum {text} (y))", ("sum", formula, ("y",))
    return text, formula


def parts_of(works):
    return (works.measure, [(name, works.size(name), works.rim(name)) for name in works.pictures()],
            [(name, works.formula(name)) for name in works.stages()])


FULL = Works(10 ** 60, [("base", 40, 1, 10 ** 60 - 1), ("q", 1, 40, 0)], [
    ("abcdefghijkl", ("sum", ("read", "base", -3, 3), ("read", "q", 0, -1))),
    ("b", ("pick", ("read", "abcdefghijkl", 0, 0), ("number", int(SIXTY)), ("less", ("x",), ("y",)))),
])
FULL_TEXT = text_of(
    f"measure {TEN_TO_60}",
    f"picture base 40 1 {NINES}",
    "picture q 1 40 0",
    "stage abcdefghijkl = (sum (read base -3 3) (read q 0 -1))",
    f"stage b = (pick (read abcdefghijkl 0 0) (number {SIXTY}) (less (x) (y)))",
)


class ThereAndBack(unittest.TestCase):

    def test_a_full_works(self):
        self.assertEqual(works_shown(FULL), FULL_TEXT)
        self.assertEqual(parts_of(works_read(FULL_TEXT)), parts_of(FULL))
        self.assertEqual(works_shown(works_read(FULL_TEXT)), FULL_TEXT)

    def test_the_least_works(self):
        works = Works(2, [("p", 1, 1, 0)], [("a", ("x",))])
        self.assertEqual(works_shown(works), "measure 2\npicture p 1 1 0\nstage a = (x)")
        self.assertEqual(parts_of(works_read(works_shown(works))), parts_of(works))

    def test_each_formula(self):
        for text, formula in FORMULAS.items():
            works = Works(10, [("p", 3, 2, 7)], [("a", formula)])
            self.assertEqual(works_shown(works), with_formula(text))
            told = works_read(with_formula(text)).formula("a")
            self.assertEqual(told, formula)
            self.assertIs(type(told), tuple)

    def test_each_step(self):
        for dx in range(-3, 4):
            for dy in range(-3, 4):
                text = with_formula(f"(read p {dx} {dy})")
                self.assertEqual(works_read(text).formula("a"), ("read", "p", dx, dy))
                self.assertEqual(works_shown(works_read(text)), text)

    def test_brackets_within_one_another(self):
        for levels in (1, 2, 8, 12):
            text, formula = deep(levels)
            self.assertEqual(works_shown(Works(10, [("p", 3, 2, 7)], [("a", formula)])), with_formula(text))
            self.assertEqual(works_read(with_formula(text)).formula("a"), formula)

    def test_as_many_pictures_and_stages_as_there_may_be(self):
        pictures = [f"picture {name} 2 3 {rim}" for rim, name in enumerate("pqrs")]
        stages = ["stage a = (read s 1 1)"] + [f"stage {name} = (read {above} 0 0)"
                                               for above, name in zip("abcdefg", "bcdefgh")]
        works = works_read(text_of(MEASURE, *pictures, *stages))
        self.assertEqual((works.pictures(), works.stages()), (list("pqrs"), list("abcdefgh")))
        self.assertEqual([works.rim(name) for name in "pqrs"], [0, 1, 2, 3])
        self.assertEqual(works.size("r"), (2, 3))
        self.assertEqual(works_shown(works), text_of(MEASURE, *pictures, *stages))

    def test_names_that_are_words_of_the_forms(self):
        text = text_of(MEASURE, "picture picture 1 1 0", "picture measure 1 1 0", "stage stage = (read picture 0 0)",
                       "stage sum = (sum (read measure 0 0) (read stage 0 0))", "stage read = (read sum 0 0)")
        self.assertEqual(works_read(text).stages(), ["stage", "sum", "read"])
        self.assertEqual(works_shown(works_read(text)), text)

    def test_kinds(self):
        self.assertIs(type(works_shown(FULL)), str)
        works = works_read(FULL_TEXT)
        self.assertIs(type(works), Works)
        self.assertIs(type(works.measure), int)
        self.assertIs(type(works.rim("q")), int)

    def test_a_long_text(self):
        """A text of nearly 6,000 signs: eight formulas of 29 reads each."""
        reads = ["(read abcdefghijkl -3 -3)"] * 29
        while len(reads) > 1:
            reads = [f"(sum {pair[0]} {pair[1]})" if len(pair) == 2 else pair[0]
                     for pair in (reads[place:place + 2] for place in range(0, len(reads), 2))]
        text = text_of(MEASURE, "picture abcdefghijkl 1 1 0", *[f"stage {name} = {reads[0]}" for name in "abcdef"])
        self.assertTrue(5000 < len(text) < 6000)
        self.assertEqual(works_shown(works_read(text)), text)


class NotOfTheForm(unittest.TestCase):

    def assert_bad(self, row, *rows):
        with self.assertRaises(BadText, msg=rows) as caught:
            works_read(text_of(*rows))
        self.assertEqual(caught.exception.row, row, rows)
        self.assertIs(type(caught.exception.row), int)

    def assert_bad_row(self, text, *above):
        """As the last row and in the midst, with rows below it that aren't of the form either."""
        self.assert_bad(len(above), *above, text)
        self.assert_bad(len(above), *above, text, STAGE)
        self.assert_bad(len(above), *above, text, "nothing", "")

    def assert_bad_formula(self, formula):
        self.assert_bad_row(f"stage a = {formula}", MEASURE, PICTURE)
        self.assert_bad_row(f"stage b = {formula}", MEASURE, PICTURE, STAGE)

    def test_a_row_of_no_form(self):
        for row in ("", " ", "nothing", "(x)", "#", "~", "picture", "picture ", "stage", "stage ", "measure", "measure ",
                    "picture p 1 1", "stage a =", "stage a = ", "stage a (x)", "stage a =(x)", "stage a= (x)"):
            self.assert_bad_row(row)
            self.assert_bad_row(row, MEASURE)
            self.assert_bad_row(row, MEASURE, PICTURE)
            self.assert_bad_row(row, MEASURE, PICTURE, STAGE)

    def test_the_empty_text_and_line_ends_alone(self):
        self.assert_bad(0, "")
        self.assert_bad(0, "", "")
        self.assert_bad(0, "", MEASURE, PICTURE, STAGE)

    def test_a_line_end_behind_the_last_row(self):
        self.assert_bad(1, MEASURE, "")
        self.assert_bad(2, MEASURE, PICTURE, "")
        self.assert_bad(3, MEASURE, PICTURE, STAGE, "")
        self.assert_bad(3, MEASURE, PICTURE, STAGE, "", "")
        self.assert_bad(1, MEASURE, "", PICTURE, STAGE)
        self.assert_bad(2, MEASURE, PICTURE, "", STAGE)

    def test_rows_in_another_order(self):
        self.assert_bad(0, PICTURE, MEASURE, STAGE)
        self.assert_bad(0, STAGE)
        self.assert_bad(0, PICTURE)
        self.assert_bad(1, MEASURE, MEASURE, PICTURE, STAGE)
        self.assert_bad(2, MEASURE, PICTURE, MEASURE, STAGE)
        self.assert_bad(3, MEASURE, PICTURE, STAGE, MEASURE)
        self.assert_bad(2, MEASURE, STAGE, PICTURE)
        self.assert_bad(3, MEASURE, PICTURE, STAGE, PICTURE)
        self.assert_bad(3, MEASURE, PICTURE, STAGE, "picture q 1 1 0", "stage b = (y)")

    def test_blanks_too_many_or_too_few(self):
        above = {MEASURE: (), PICTURE: (MEASURE,)}
        rows = [MEASURE, PICTURE] + [f"stage a = {formula}" for formula in FORMULAS]
        for row in rows:
            for place in range(len(row) + 1):
                more = row[:place] + " " + row[place:]
                self.assert_bad_row(more, *above.get(row, (MEASURE, PICTURE)))
                if row[place:place + 1] == " ":
                    self.assert_bad_row(row[:place] + row[place + 1:], *above.get(row, (MEASURE, PICTURE)))

    def test_brackets_too_many_or_too_few(self):
        for formula in FORMULAS:
            for place, sign in enumerate(formula):
                for bracket in "()":
                    self.assert_bad_formula(formula[:place] + bracket + formula[place:])
                if sign in "()":
                    self.assert_bad_formula(formula[:place] + formula[place + 1:])
            for more in ("(", ")", "()", " ()", "))", formula, " " + formula):
                self.assert_bad_formula(formula + more)
            self.assert_bad_formula(f"({formula})")
            self.assert_bad_formula(formula[1:-1])
            self.assert_bad_formula(formula.replace("(", "[").replace(")", "]"))
        for formula in ("", "(", ")", "()", ")(", "( )", "(())", ")x("):
            self.assert_bad_formula(formula)

    def test_numbers_that_are_none(self):
        wrong = ["00", "01", "-0", "-1", "+1", "1.", "1.0", "1e3", "0x1", "1_0", "a", "1a", "a1", "-", "--1", "~", "1-",
                 "1,", "'1'", "x", "(number", "0" * 60, "0" + NINES, "1" * 62, TEN_TO_60 + "0", "-" + NINES]
        for number in wrong:
            self.assert_bad_row(f"measure {number}")
            self.assert_bad_row(f"picture p {number} 2 7", MEASURE)
            self.assert_bad_row(f"picture p 3 {number} 7", MEASURE)
            self.assert_bad_row(f"picture p 3 2 {number}", MEASURE)
            self.assert_bad_formula(f"(number {number})")

    def test_steps_that_are_none(self):
        wrong = ["00", "01", "-00", "-01", "-0", "+1", "+0", "1.", "1e1", "1_0", "a", "-a", "-", "--1", "1-", "- 1", "~",
                 "(x)", "1000", "-1000", "0000", NINES]
        for step in wrong:
            self.assert_bad_formula(f"(read p {step} 0)")
            self.assert_bad_formula(f"(read p 0 {step})")
            self.assert_bad_formula(f"(sum (x) (read p {step} {step}))")

    def test_names_that_are_none(self):
        for name in ("", "A", "aB", "a1", "1", "a_", "-", "~", "a-b", "a.", "(x)", "a)", "(a", "=", "'a'", "{", "`"):
            self.assert_bad_row(f"picture {name} 3 2 7", MEASURE)
            self.assert_bad_row(f"stage {name} = (x)", MEASURE, PICTURE)
            self.assert_bad_formula(f"(read {name} 0 0)")

    def test_words_that_are_none(self):
        for word in ("", "Measure", "measures", "meas", "measur", "picture", "number", "a", "="):
            self.assert_bad_row(f"{word} 10")
        for word in ("", "Picture", "pictures", "pictur", "image", "stage", "measure"):
            self.assert_bad_row(f"{word} p 3 2 7", MEASURE)
        for word in ("", "Stage", "stages", "stag", "picture", "measure"):
            self.assert_bad_row(f"{word} a = (x)", MEASURE, PICTURE)
        for sign in ("", "==", ":=", "-", "is", "= ="):
            self.assert_bad_row(f"stage a {sign} (x)", MEASURE, PICTURE)
        for word in ("", "plus", "Sum", "SUM", "sums", "su", "min", "max", "if", "x", "y", "number", "read", "1", "p"):
            self.assert_bad_formula(f"({word} (x) (y))")
        for word in ("", "X", "z", "xy", "p", "1", "-1", "number", "read", "sum", "pick"):
            self.assert_bad_formula(f"({word})")
            self.assert_bad_formula(f"(sum ({word}) (x))")
            self.assert_bad_formula(f"(sum (x) ({word}))")
        for word in ("", "num", "Number", "x", "y", "read", "sum", "pick"):
            self.assert_bad_formula(f"({word} 5)")
        for word in ("", "Read", "reads", "number", "x", "sum", "pick"):
            self.assert_bad_formula(f"({word} p 0 0)")

    def test_too_much_or_too_little_behind_a_word(self):
        for row, above in ((MEASURE, ()), (PICTURE, (MEASURE,)), (STAGE, (MEASURE, PICTURE))):
            parts = row.split(" ")
            for place in range(len(parts)):
                self.assert_bad_row(" ".join(parts[:place] + parts[place + 1:]), *above)
                self.assert_bad_row(" ".join(parts[:place] + parts[place:place + 1] * 2 + parts[place + 1:]), *above)
        for behind in ("", " 1 2", " (number 1)", " (x)"):
            self.assert_bad_formula(f"(number{behind})")
        for behind in (" 0", " (x)", " x"):
            self.assert_bad_formula(f"(x{behind})")
            self.assert_bad_formula(f"(y{behind})")
        for behind in ("", " p", " p 0", " p 0 0 0", " 0 0", " 0 0 p", " p p 0", " p 0 p", " (x) 0 0", " p (x) (y)"):
            self.assert_bad_formula(f"(read{behind})")
        for deed in ("sum", "less", "times", "least", "most"):
            for behind in ("", " (x)", " (x) (y) (x)", " 1 2", " (x) 1", " 1 (x)", " x y", " (x) y", " p 0 0"):
                self.assert_bad_formula(f"({deed}{behind})")
        for behind in ("", " (x)", " (x) (y)", " (x) (y) (x) (y)", " 1 2 3", " (x) (y) 1", " 1 (x) (y)", " p 0 0"):
            self.assert_bad_formula(f"(pick{behind})")

    def test_signs_that_part_nothing(self):
        for sign in ",;:\t\r.":
            for row, above in ((MEASURE, ()), (PICTURE, (MEASURE,)), ("stage a = (sum (x) (y))", (MEASURE, PICTURE))):
                for place in range(len(row) + 1):
                    self.assert_bad_row(row[:place] + sign + row[place:], *above)
                    if row[place:place + 1] == " ":
                        self.assert_bad_row(row[:place] + sign + row[place + 1:], *above)

    def test_the_first_row_is_told(self):
        self.assert_bad(0, "nothing", "nothing")
        self.assert_bad(1, MEASURE, "picture p 3 2", "stage a = x")
        self.assert_bad(2, MEASURE, PICTURE, "stage a = x", "stage b = x")
        self.assert_bad(4, MEASURE, PICTURE, PICTURE, STAGE, "stage b = (x", "stage c = (x)", "picture")
        for count in range(1, 12):
            self.assert_bad(count + 2, MEASURE, PICTURE, *[STAGE] * count, "stage a")
            self.assert_bad(count + 1, MEASURE, *[PICTURE] * count, "picture p")


class LetByAndRefusedByWorks(unittest.TestCase):

    def assert_refused(self, error, *rows):
        self.assertRaises(error, works_read, text_of(*rows))

    def test_measures(self):
        for number in ("0", "1", "1" + "0" * 59 + "1", "9" * 61):
            self.assert_refused(NoMeasure, f"measure {number}", PICTURE, STAGE)
            self.assert_refused(NoMeasure, f"measure {number}")
        self.assertEqual(works_read(text_of("measure 2", PICTURE, STAGE)).measure, 2)
        self.assertEqual(works_read(text_of(f"measure {TEN_TO_60}", PICTURE, STAGE)).measure, 10 ** 60)

    def test_counts(self):
        pictures = [f"picture {name} 1 1 0" for name in "pqrst"]
        stages = [f"stage {name} = (x)" for name in "abcdefghi"]
        self.assert_refused(BadCount, MEASURE)
        self.assert_refused(BadCount, MEASURE, PICTURE)
        self.assert_refused(BadCount, MEASURE, STAGE)
        self.assert_refused(BadCount, MEASURE, *pictures, STAGE)
        self.assert_refused(BadCount, MEASURE, PICTURE, *stages)

    def test_names(self):
        self.assert_refused(BadName, MEASURE, "picture abcdefghijklm 1 1 0", STAGE)
        self.assert_refused(BadName, MEASURE, PICTURE, "stage abcdefghijklm = (x)")
        self.assert_refused(BadName, MEASURE, PICTURE, f"stage {'a' * 900} = (x)")
        self.assert_refused(Twice, MEASURE, PICTURE, PICTURE, STAGE)
        self.assert_refused(Twice, MEASURE, PICTURE, STAGE, STAGE)
        self.assert_refused(Twice, MEASURE, PICTURE, "stage p = (x)")

    def test_sizes_and_numbers(self):
        for side in ("0", "41", "9" * 61):
            self.assert_refused(BadSize, MEASURE, f"picture p {side} 1 0", STAGE)
            self.assert_refused(BadSize, MEASURE, f"picture p 1 {side} 0", STAGE)
        for number in (TEN_TO_60, "9" * 61):
            self.assert_refused(BadNumber, MEASURE, f"picture p 1 1 {number}", STAGE)
            self.assert_refused(BadNumber, MEASURE, PICTURE, f"stage a = (number {number})")

    def test_reads(self):
        for name in ("q", "a", "b", "abcdefghijklm", "z" * 900):
            self.assert_refused(NoStage, MEASURE, PICTURE, f"stage a = (read {name} 0 0)", "stage b = (x)")
        for step in ("4", "-4", "10", "-10", "100", "999", "-999"):
            self.assert_refused(BadStep, MEASURE, PICTURE, f"stage a = (read p {step} 0)")
            self.assert_refused(BadStep, MEASURE, PICTURE, f"stage a = (read p 0 {step})")
            self.assert_refused(NoStage, MEASURE, PICTURE, f"stage a = (read q {step} {step})")

    def test_the_forms_of_all_rows_ahead_of_works(self):
        with self.assertRaises(BadText) as caught:
            works_read(text_of("measure 1", "picture p 0 99 7", PICTURE, "stage p = (read q 9 9)", "stage"))
        self.assertEqual(caught.exception.row, 4)

    def test_the_order_that_works_tells(self):
        rows = ["measure 1", "picture p 41 1 0", PICTURE, STAGE, STAGE]
        self.assert_refused(NoMeasure, *rows)
        self.assert_refused(BadSize, MEASURE, *rows[1:])
        self.assert_refused(Twice, MEASURE, PICTURE, *rows[2:])


if __name__ == "__main__":
    unittest.main()
