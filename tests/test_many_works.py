"""Points 9, 11 and 12 on many works, against a second way: what is told from each cell upwards, by recursion."""

import functools
import random
import unittest

from stripmill.meaning import cell, picture
from stripmill.needs import chain, needs, touched
from stripmill.works import Works

GREAT = 10 ** 60 - 1
DEEDS = ("sum", "less", "times", "least", "most", "pick")


def grown(chance, names, deep):
    if deep == 1 or chance.random() < 0.2:
        word = chance.choice(("number", "x", "y") + ("read",) * 6)
        if word == "number":
            return ("number", chance.choice((0, 1, chance.randrange(50), GREAT)))
        if word == "read":
            return ("read", chance.choice(names[-3:] + names), chance.randint(-3, 3), chance.randint(-3, 3))
        return (word,)
    deed = chance.choice(DEEDS)
    return (deed,) + tuple(grown(chance, names, deep - 1) for place in range(3 if deed == "pick" else 2))


def parts_of(chance):
    """A measure, pictures and stages, and what is given."""
    measure = chance.choice((2, 3, 10, 97, 10 ** 60))
    names = chance.sample(["a", "bb", "ccc", "dddd", "e", "ff", "ggg", "h", "ii", "jjj", "k", "lllllllllll"], 12)
    count = chance.randint(1, 4)
    pictures = [(name, chance.randint(1, 6), chance.randint(1, 6), chance.choice((0, 5, GREAT)))
                for name in names[:count]]
    stages = []
    for place in range(count, count + chance.randint(1, 8)):
        stages.append((names[place], grown(chance, names[:place], chance.randint(1, 4))))
    given = {name: [[chance.choice((0, chance.randint(-99, 99), chance.randint(-GREAT, GREAT))) for x in range(width)]
                    for y in range(height)] for name, width, height, rim in pictures}
    return measure, pictures, stages, given


class SecondWay:

    def __init__(self, measure, pictures, stages, given):
        self.measure, self.given, self.formulas = measure, given, dict(stages)
        self.pictures = {name: (width, height, rim) for name, width, height, rim in pictures}
        self.has = functools.lru_cache(None)(self.has)

    def has(self, name, x, y):
        if name in self.formulas:
            return self.worth(self.formulas[name], x, y)
        width, height, rim = self.pictures[name]
        inside = x in range(width) and y in range(height)
        return (self.given[name][y][x] if inside else rim) % self.measure

    def worth(self, formula, x, y):
        word, behind = formula[0], formula[1:]
        if word == "read":
            return self.has(behind[0], x + behind[1], y + behind[2])
        if word in ("number", "x", "y"):
            return {"number": behind[0] if behind else 0, "x": x, "y": y}[word] % self.measure
        if word == "pick":
            return self.worth(behind[1] if self.worth(behind[0], x, y) else behind[2], x, y)
        a, b = [self.worth(part, x, y) for part in behind]
        return {"sum": a + b, "less": a - b, "times": a * b, "least": min(a, b), "most": max(a, b)}[word] % self.measure

    def read_by(self, name, x, y):
        def reads(formula):
            if formula[0] == "read":
                return [(formula[1], x + formula[2], y + formula[3])]
            return [found for part in formula[1:] if isinstance(part, tuple) for found in reads(part)]
        return reads(self.formulas[name]) if name in self.formulas else []

    def touched(self, name, one):
        left, top, right, bottom = one
        seen, open_ones = set(), [(name, x, y) for x in range(left, right) for y in range(top, bottom)]
        while open_ones:
            one = open_ones.pop()
            if one not in seen:
                seen.add(one)
                open_ones.extend(self.read_by(*one))
        return seen


class ManyWorks(unittest.TestCase):

    def test_meaning(self):
        chance = random.Random(9)
        for turn in range(150):
            measure, pictures, stages, given = parts_of(chance)
            works, other = Works(measure, pictures, stages), SecondWay(measure, pictures, stages, given)
            for name in works.pictures() + works.stages():
                left, top = chance.randint(-8, 8), chance.randint(-8, 8)
                one = (left, top, left + chance.randint(1, 5), top + chance.randint(1, 5))
                wanted = [[other.has(name, x, y) for x in range(one[0], one[2])] for y in range(one[1], one[3])]
                self.assertEqual(picture(works, given, name, one), wanted, (stages, name, one))
                self.assertEqual(cell(works, given, name, left, top), wanted[0][0])

    def test_needs(self):
        chance = random.Random(12)
        for turn in range(150):
            measure, pictures, stages, given = parts_of(chance)
            works, other = Works(measure, pictures, stages), SecondWay(measure, pictures, stages, given)
            name = chance.choice(works.pictures() + works.stages() + works.stages()[-1:] * 9)
            left, top = chance.randint(-60, 90), chance.randint(-60, 90)
            one = (left, top, left + chance.randint(1, 6), top + chance.randint(1, 6))
            seen = other.touched(name, one)
            told = needs(works, name, one)
            self.assertEqual([known for known, needed in told], works.pictures() + works.stages())
            for known, needed in told:
                spots = sorted((y, x) for found, x, y in seen if found == known)
                self.assertEqual(touched(works, name, one, known), [(x, y) for y, x in spots])
                self.check_needed(needed, spots)
                for side in ("left", "top", "right", "bottom"):
                    self.check_chain(chain(works, name, one, known, side), other, name, one, known, side, needed)

    def check_needed(self, needed, spots):
        if not spots:
            self.assertIsNone(needed)
            return
        rows, columns = [y for y, x in spots], [x for y, x in spots]
        self.assertEqual(needed, (min(columns), min(rows), max(columns) + 1, max(rows) + 1))

    def check_chain(self, links, other, name, one, last, side, needed):
        if needed is None:
            self.assertIsNone(links)
            return
        first, x, y = links[0]
        self.assertTrue(first == name and one[0] <= x < one[2] and one[1] <= y < one[3])
        for reader, link in zip(links, links[1:]):
            self.assertIn(link, other.read_by(*reader))
        found, x, y = links[-1]
        self.assertEqual(found, last)
        self.assertEqual({"left": x, "top": y, "right": x + 1, "bottom": y + 1}[side],
                         needed[("left", "top", "right", "bottom").index(side)])


if __name__ == "__main__":
    unittest.main()
