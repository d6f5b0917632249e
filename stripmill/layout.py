"""How a plan is carried out for an asked part: what is due, in which beat its rows are made, where they are kept."""

from stripmill.formulas import rest
from stripmill.needs import needs
from stripmill.plans import check_plan, kept_reads
from stripmill.rectangles import BOTTOM, TOP


class Layout:

    # What is needed is handed in, since it is the same whatever the plan: needed has a rectangle or None by name.
    def __init__(self, works, name, needed, plan):
        self.asked = name
        self.needed = dict(needed)
        self.ways = dict(plan)
        # The due stages but the asked one.
        self.kept = [stage for stage, way in plan if way != "in" and needed[stage] is not None]
        self.strips = [stage for stage in self.kept if self.ways[stage] == "strip"]
        # Those that have a row in each beat, in order.
        self.makers = self.strips + [name]
        self.reads = {}
        for reader in self.makers:
            self.reads[reader] = kept_reads(works, plan, reader)
        self.lead = {name: 0}
        self.ring = {}
        # Upwards, so that the leads of all readers are there ahead of those of what they read.
        for stage in reversed(self.strips):
            sums = self.lead_sums(stage)
            self.lead[stage] = max(sums)
            self.ring[stage] = max(sums) - min(sums) + 1

    def lead_sums(self, stage):
        sums = []
        for reader in self.lead:
            sums.extend([self.lead[reader] + dy for dy in self.steps_down(reader, stage)])
        return sums

    def steps_down(self, reader, stage):
        return [dy for name, dx, dy in self.reads[reader] if name == stage]

    def is_needed(self, stage, row):
        return self.needed[stage][TOP] <= row < self.needed[stage][BOTTOM]

    def beats(self):
        first = min([self.needed[maker][TOP] - self.lead[maker] for maker in self.makers])
        last = max([self.needed[maker][BOTTOM] - self.lead[maker] - 1 for maker in self.makers])
        return list(range(first, last + 1))

    # The row of this beat, None where it is not needed.
    def row_in(self, beat, maker):
        row = beat + self.lead[maker]
        return row if self.is_needed(maker, row) else None

    def slot(self, stage, row):
        if self.ways[stage] == "strip":
            return rest(row, self.ring[stage])
        return row - self.needed[stage][TOP]

    def rows_kept(self, stage):
        if self.ways[stage] == "strip":
            return self.ring[stage]
        return self.needed[stage][BOTTOM] - self.needed[stage][TOP]


def layout_for(works, name, one, plan):
    check_plan(works, name, plan)
    return Layout(works, name, dict(needs(works, name, one)), plan)
