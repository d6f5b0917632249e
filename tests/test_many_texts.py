"""Points 23 to 25 on many texts, against a second way: regular expressions that shorten a row from the inside."""

import ast
import random
import re
import unittest

from stripmill.errors import BadText, MillError
from stripmill.texts import plan_read, plan_shown, works_read, works_shown
from stripmill.works import Works

NUMBER = "(?:0|[1-9][0-9]{0,60})"
STEP = "(?:0|-?[1-9][0-9]{0,2})"
NAME = "[a-z]+"
MEASURE_ROW = f"measure {NUMBER}"
PICTURE_ROW = f"picture {NAME} {NUMBER} {NUMBER} {NUMBER}"
# A formula that has been looked at is shortened to this sign, which no text has.
DONE = "\x00"
PLAIN = rf"\((?:x|y|number {NUMBER}|read {NAME} {STEP} {STEP})\)"
DEED = rf"\((?:(?:sum|less|times|least|most)(?: {DONE}){{2}}|pick(?: {DONE}){{3}})\)"
PAIR = "[a-z]{1,12} (?:in|whole|strip)"


def is_stage_row(row):
    short = re.sub(PLAIN, DONE, row)
    while re.search(DEED, short):
        short = re.sub(DEED, DONE, short)
    return re.fullmatch(f"stage {NAME} = {DONE}", short) is not None


def first_bad_row(rows):
    if not re.fullmatch(MEASURE_ROW, rows[0]):
        return 0
    place = 1
    while place < len(rows) and re.fullmatch(PICTURE_ROW, rows[place]):
        place += 1
    while place < len(rows) and is_stage_row(rows[place]):
        place += 1
    return place if place < len(rows) else None


def tuple_of(text):
    """From a formula's text a tuple, by way of Python's own."""
    return ast.literal_eval(re.sub("[a-z]+", lambda word: f'"{word[0]}"', text).replace(" ", ",").replace(")", ",)"))


def parts_of(text):
    rows = [row.split(" ", 3 if row.startswith("stage") else -1) for row in text.split("\n")]
    pictures = [(row[1], int(row[2]), int(row[3]), int(row[4])) for row in rows if row[0] == "picture"]
    return int(rows[0][1]), pictures, [(row[1], tuple_of(row[3])) for row in rows if row[0] == "stage"]


def made_of(works):
    return (works.measure, [(name, *works.size(name), works.rim(name)) for name in works.pictures()],
            [(name, works.formula(name)) for name in works.stages()])


def answer_of(ask, *handed):
    """What is told, or the class of the refusal."""
    try:
        return made_of(ask(*handed))
    except MillError as error:
        return type(error)


def chance_number(chance):
    return chance.choice((0, 1, 7, 10, 40, 10 ** 59, 10 ** 60 - 1, chance.randrange(10 ** 60)))


def grown(chance, names, deep):
    if deep == 1 or chance.random() < 0.2:
        word = chance.choice(("number", "x", "y", "read", "read"))
        if word == "number":
            return f"(number {chance_number(chance)})"
        if word == "read":
            return f"(read {chance.choice(names)} {chance.randint(-3, 3)} {chance.randint(-3, 3)})"
        return f"({word})"
    deed = chance.choice(("sum", "less", "times", "least", "most", "pick"))
    parts = [grown(chance, names, deep - 1) for place in range(3 if deed == "pick" else 2)]
    return f"({deed} {' '.join(parts)})"


def chance_text(chance):
    names = ["base", "q", "abcdefghijkl", "b", "in", "x"]
    pictures = chance.randint(1, 3)
    rows = [f"measure {max(2, chance_number(chance))}"]
    for name in names[:pictures]:
        rows.append(f"picture {name} {chance.randint(1, 40)} {chance.randint(1, 40)} {chance_number(chance)}")
    for place in range(pictures, len(names)):
        rows.append(f"stage {names[place]} = {grown(chance, names[:place], chance.choice((1, 2, 3, 4)))}")
    return "\n".join(rows)


def spoilt(chance, text):
    """With a sign put in, taken out or changed, a bit twice, or two rows in each other's place."""
    place = chance.randrange(len(text) + 1)
    further = place + chance.randint(1, 6)
    sign = chance.choice("   ()()\n-0019xyabz=,+A~")
    way = chance.randrange(5)
    if way == 0:
        return text[:place] + sign + text[place:]
    if way == 1:
        return text[:place] + text[place + 1:]
    if way == 2:
        return text[:place] + sign + text[place + 1:]
    if way == 3:
        return text[:place] + text[place:further] + text[place:]
    rows = text.split("\n")
    one, other = chance.randrange(len(rows)), chance.randrange(len(rows))
    rows[one], rows[other] = rows[other], rows[one]
    return "\n".join(rows)


class ManyTexts(unittest.TestCase):

    def test_there_and_back(self):
        chance = random.Random(23)
        for turn in range(300):
            text = chance_text(chance)
            works = Works(*parts_of(text))
            self.assertEqual(works_shown(works), text)
            self.assertEqual(made_of(works_read(text)), parts_of(text))

    def test_spoilt_texts(self):
        chance = random.Random(24)
        bad, good = 0, 0
        for turn in range(6000):
            text = spoilt(chance, chance_text(chance) if turn % 10 else "measure 5\npicture p 1 1 0\nstage a = (x)")
            row = first_bad_row(text.split("\n"))
            if row is None:
                good += 1
                self.assertEqual(answer_of(works_read, text), answer_of(Works, *parts_of(text)), text)
            else:
                bad += 1
                with self.assertRaises(BadText, msg=text) as caught:
                    works_read(text)
                self.assertEqual(caught.exception.row, row, text)
        self.assertGreater(min(bad, good), 500)

    def test_spoilt_plans(self):
        chance = random.Random(25)
        bad, good = 0, 0
        for turn in range(6000):
            pairs = [(chance.choice(("a", "in", "abcdefghijkl", "whole")), chance.choice(("in", "whole", "strip")))
                     for place in range(chance.randint(0, 4))]
            text = ", ".join(f"{stage} {way}" for stage, way in pairs)
            self.assertEqual(plan_shown(pairs), text)
            text = spoilt(chance, text)
            if re.fullmatch(f"(?:{PAIR}(?:, {PAIR})*)?", text):
                good += 1
                self.assertEqual(plan_read(text), re.findall("([a-z]+) ([a-z]+)", text), text)
                self.assertEqual(plan_shown(plan_read(text)), text)
            else:
                bad += 1
                with self.assertRaises(BadText, msg=text) as caught:
                    plan_read(text)
                self.assertEqual(caught.exception.row, 0)
        self.assertGreater(min(bad, good), 500)


if __name__ == "__main__":
    unittest.main()
