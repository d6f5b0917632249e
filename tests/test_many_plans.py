"""Points 13 to 22 on many plans, against a second way: each answer worked out from what is done, beat by beat."""

import itertools
import random
import unittest
from collections import defaultdict

from stripmill.costs import cost, work
from stripmill.errors import BadPlan
from stripmill.flat import flat, room
from stripmill.machine import made, run
from stripmill.meaning import picture
from stripmill.needs import touched
from stripmill.planner import best
from stripmill.plans import fault, kept_reads
from stripmill.rings import leads, lost
from stripmill.works import Works

DEEDS = ("sum", "less", "times", "least", "most", "pick")
WAYS = ("in", "whole", "strip")


def grown(chance, names, deep):
    if deep == 1 or chance.random() < 0.15:
        word = chance.choice(("number", "x", "y") + ("read",) * 9)
        if word == "number":
            return ("number", chance.randrange(50))
        if word == "read":
            return ("read", chance.choice(names[-2:] * 2 + names), chance.randint(-3, 3), chance.randint(-3, 3))
        return (word,)
    deed = chance.choice(DEEDS)
    return (deed,) + tuple(grown(chance, names, deep - 1) for place in range(3 if deed == "pick" else 2))


def parts_of(chance, deeps):
    """A works and what is given to it."""
    names = list("pqabcdefgh")
    pictures = [(name, chance.randint(1, 5), chance.randint(1, 5), chance.randrange(9)) for name in names[:2]]
    stages = []
    for place in range(2, 2 + chance.choice((1, 2, 3, 4, 5, 6, 7, 8, 8, 8))):
        stages.append((names[place], grown(chance, names[:place], chance.choice(deeps))))
    given = {name: [[chance.randint(-99, 99) for x in range(width)] for y in range(height)]
             for name, width, height, rim in pictures}
    return Works(chance.choice((2, 10, 97, 1000)), pictures, stages), given


def plan_for(chance, works, name):
    ways = chance.choice((WAYS, ("in", "strip"), ("whole", "whole", "in"), ("strip",), ("in",),
                         ("strip", "strip", "in")))
    above = works.stages()[:works.stages().index(name)]
    return [(stage, chance.choice(ways)) for stage in above]


def rectangle_for(chance):
    left, top = chance.randint(-6, 6), chance.randint(-6, 6)
    return (left, top, left + chance.randint(1, 3), top + chance.randint(1, 5))


class SecondWay:

    def __init__(self, works, given, name, one, plan):
        self.works, self.given, self.name, self.one, self.ways = works, given, name, one, dict(plan)
        self.order = [stage for stage, way in plan] + [name]
        self.cells = {stage: touched(works, name, one, stage) for stage in self.order}

    def formula_reads(self, formula):
        if formula[0] == "read":
            return [formula[1:]]
        return [found for part in formula[1:] if isinstance(part, tuple) for found in self.formula_reads(part)]

    def answered(self, stage, x, y, kept):
        """How many reads are answered when the stage is worked out in a cell; those of what is kept into the list."""
        count = 0
        for name, dx, dy in self.formula_reads(self.works.formula(stage)):
            count += 1
            if self.ways.get(name) == "in":
                count += self.answered(name, x + dx, y + dy, kept)
            else:
                kept.append((name, x + dx, y + dy))
            if count > 300:
                break
        return count

    def reads(self, stage):
        kept = []
        self.answered(stage, 0, 0, kept)
        return kept

    def fault(self):
        kept = [stage for stage in self.order if self.ways.get(stage) != "in"]
        for stage in kept:
            if self.answered(stage, 0, 0, []) > 300:
                return ("big", stage)
        for stage in kept:
            if self.ways.get(stage) == "whole" and any(self.ways.get(name) == "strip" for name, x, y in self.reads(stage)):
                return ("strip", stage)
        return None

    def due(self, *ways):
        return [stage for stage in self.order[:-1] if self.ways[stage] in ways and self.cells[stage]]

    def rows(self, stage):
        rows = [y for x, y in self.cells[stage]]
        return range(min(rows), max(rows) + 1)

    def columns(self, stage):
        columns = [x for x, y in self.cells[stage]]
        return range(min(columns), max(columns) + 1)

    def leads(self):
        """From the asked row 0 upwards: which rows, counted from it, are read by the rows of one beat."""
        sums = defaultdict(list)
        sums[self.name] = [0]
        for reader in [self.name] + self.due("strip")[::-1]:
            for name, dx, dy in self.reads(reader):
                sums[name].append(max(sums[reader]) + dy)
        return [(stage, max(sums[stage]), max(sums[stage]) - min(sums[stage]) + 1) for stage in self.due("strip")]

    def beats(self):
        """For each beat the list of (stage, row) that are made in it, the asked one last."""
        beats = defaultdict(list)
        for stage, lead in [(stage, lead) for stage, lead, ring in self.leads()] + [(self.name, 0)]:
            for row in self.rows(stage):
                beats[row - lead].append((stage, row))
        return sorted(beats.items())

    def lost(self, lost_of, ring):
        """By doing the beats with a ring of so many rows, each slot of which knows which row lies in it."""
        slots = {}
        for beat, makings in self.beats():
            for stage, row in makings:
                for read in sorted(row + dy for name, dx, dy in self.reads(stage) if name == lost_of):
                    if ring == 0 or slots[read % ring] != read:
                        return beat, stage, read
                if stage == lost_of and ring:
                    slots[row % ring] = row
        return None

    def flat(self):
        deeds = [("make", stage, row, place) for stage in self.due("whole") for place, row in enumerate(self.rows(stage))]
        rings = {stage: ring for stage, lead, ring in self.leads()}
        for beat, makings in self.beats():
            for stage, row in makings:
                deeds.append(("tell", row) if stage == self.name else ("make", stage, row, row % rings[stage]))
        return deeds

    def room(self):
        rings = {stage: ring for stage, lead, ring in self.leads()}
        return [(stage, rings.get(stage, len(self.rows(stage))), self.columns(stage)[0], len(self.columns(stage)))
                for stage in self.due("whole", "strip")]

    def work(self):
        """By doing the deeds: each formula that is worked out asks for each of its reads."""
        counts = dict.fromkeys(self.order, 0)

        def worked_out(stage):
            counts[stage] += 1
            for name, dx, dy in self.formula_reads(self.works.formula(stage)):
                if self.ways.get(name) == "in":
                    worked_out(name)

        for deed in self.flat():
            stage = deed[1] if deed[0] == "make" else self.name
            for x in self.columns(stage):
                worked_out(stage)
        return list(counts.items())

    def cost(self, price):
        boxes = sum(rows * width for stage, rows, left, width in self.room())
        return sum(count for stage, count in self.work()) + price * boxes

    def run(self, deeds):
        boxes, told = {}, []
        rings = {stage: ring for stage, lead, ring in self.leads()}

        def has(name, x, y):
            if name in self.given:
                rows = self.given[name]
                inside = 0 <= y < len(rows) and 0 <= x < len(rows[0])
                return (rows[y][x] if inside else self.works.rim(name)) % self.works.measure
            if self.ways[name] == "in":
                return worth(self.works.formula(name), x, y)
            slot = y % rings[name] if name in rings else y - self.rows(name)[0]
            return boxes.get((name, x, slot), 0)

        def worth(formula, x, y):
            word, behind = formula[0], formula[1:]
            if word == "read":
                return has(behind[0], x + behind[1], y + behind[2])
            if word in ("number", "x", "y"):
                return {"number": behind[0] if behind else 0, "x": x, "y": y}[word] % self.works.measure
            if word == "pick":
                return worth(behind[1] if worth(behind[0], x, y) else behind[2], x, y)
            a, b = [worth(part, x, y) for part in behind]
            done = {"sum": a + b, "less": a - b, "times": a * b, "least": min(a, b), "most": max(a, b)}[word]
            return done % self.works.measure

        for deed in deeds:
            stage = deed[1] if deed[0] == "make" else self.name
            row = deed[2] if deed[0] == "make" else deed[1]
            numbers = {x: worth(self.works.formula(stage), x, row) for x in self.columns(stage)}
            if deed[0] == "tell":
                told.append((row, list(numbers.values())))
            else:
                boxes.update({(stage, x, deed[3]): number for x, number in numbers.items()})
        return told


def many(seed, turns, deeps=(1, 2, 3, 3, 4)):
    chance = random.Random(seed)
    for turn in range(turns):
        works, given = parts_of(chance, deeps)
        name = chance.choice(works.stages()[-2:])
        for again in range(3):
            plan, one = plan_for(chance, works, name), rectangle_for(chance)
            yield chance, works, given, name, one, plan, SecondWay(works, given, name, one, plan)


def many_without_fault(seed, turns):
    for parts in many(seed, turns):
        if parts[-1].fault() is None:
            yield parts


class ManyPlans(unittest.TestCase):

    def test_fault(self):
        for deeps, first in (((1, 2, 3), "strip"), ((4,), "big")):
            seen = set()
            for chance, works, given, name, one, plan, other in many(14, 200, deeps):
                told = fault(works, name, plan)
                self.assertEqual(told, other.fault(), (name, plan))
                seen.add(told and told[0])
                if told is not None:
                    self.check_bad(works, name, one, plan)
            self.assertLessEqual({None, first}, seen)

    def check_bad(self, works, name, one, plan):
        for ask in (leads, flat, room, work):
            self.assertRaises(BadPlan, ask, works, name, one, plan)
        self.assertRaises(BadPlan, lost, works, name, one, plan, plan[0][0])
        self.assertRaises(BadPlan, cost, works, name, one, plan, 1)
        self.assertRaises(BadPlan, made, works, {}, name, one, plan)
        self.assertRaises(BadPlan, run, works, {}, name, one, plan, [])

    def test_kept_reads(self):
        for chance, works, given, name, one, plan, other in many_without_fault(13, 200):
            for reader in [stage for stage, way in plan if way != "in"] + [name]:
                self.assertEqual(kept_reads(works, plan, reader), other.reads(reader), (plan, reader))

    def test_leads_and_lost(self):
        for chance, works, given, name, one, plan, other in many_without_fault(15, 300):
            self.assertEqual(leads(works, name, one, plan), other.leads(), (name, plan))
            for stage, lead, ring in other.leads():
                self.assertEqual(lost(works, name, one, plan, stage), other.lost(stage, ring - 1), (name, plan, stage))
                self.assertIsNone(other.lost(stage, ring))

    def test_flat_and_room(self):
        for chance, works, given, name, one, plan, other in many_without_fault(17, 300):
            self.assertEqual(flat(works, name, one, plan), other.flat(), (name, plan))
            self.assertEqual(room(works, name, one, plan), other.room(), (name, plan))

    def test_made_is_the_picture(self):
        for chance, works, given, name, one, plan, other in many_without_fault(20, 300):
            self.assertEqual(made(works, given, name, one, plan), picture(works, given, name, one), (name, plan))

    def test_run_with_any_deeds(self):
        for chance, works, given, name, one, plan, other in many_without_fault(19, 100):
            deeds = []
            for again in range(12):
                for stage, rows, left, width in other.room():
                    if chance.random() < 0.6:
                        deeds.append(("make", stage, chance.randint(-12, 16), chance.randrange(rows)))
                deeds.append(("tell", chance.randint(-12, 16)))
            chance.shuffle(deeds)
            self.assertEqual(run(works, given, name, one, plan, deeds), other.run(deeds), (name, plan, deeds))

    def test_work_and_cost(self):
        for chance, works, given, name, one, plan, other in many_without_fault(21, 200):
            self.assertEqual(work(works, name, one, plan), other.work(), (name, plan))
            for price in (0, 1, chance.randint(2, 999), 1000):
                self.assertEqual(cost(works, name, one, plan, price), other.cost(price), (name, plan, price))

    def test_best(self):
        chance = random.Random(22)
        for turn in range(40):
            works, given = parts_of(chance, (1, 2, 3))
            name, one, price = chance.choice(works.stages()[:4]), rectangle_for(chance), chance.choice((0, 1, 5, 1000))
            above, found = works.stages()[:works.stages().index(name)], []
            for ways in itertools.product(WAYS, repeat=len(above)):
                plan = list(zip(above, ways))
                other = SecondWay(works, given, name, one, plan)
                if other.fault() is None:
                    found.append((plan, other.cost(price)))
            # min tells the first of those that cost as little.
            self.assertEqual(best(works, name, one, price), min(found, key=lambda pair: pair[1]), (name, one, price))


if __name__ == "__main__":
    unittest.main()
