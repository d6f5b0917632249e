"""The machine: boxes for the rows that are kept, and deeds that make and tell rows."""

from stripmill.flat import deeds_of, room_of
from stripmill.formulas import reads_of, worth
from stripmill.given import check_given, picture_number
from stripmill.layout import layout_for
from stripmill.rectangles import LEFT, RIGHT


class Machine:

    def __init__(self, works, given, layout):
        self.works = works
        self.given = given
        self.layout = layout
        self.boxes = {}
        for stage, rows, left, width in room_of(layout):
            self.boxes[stage] = [[0] * width for slot in range(rows)]
        self.stage_reads = {}
        for stage in works.stages():
            self.stage_reads[stage] = reads_of(works.formula(stage))

    def make(self, stage, row, slot):
        self.boxes[stage][slot] = self.worked_row(stage, row)

    def worked_row(self, stage, row):
        needed = self.layout.needed[stage]
        # The boxes stay as they are all along the row, so what an "in" stage is worth in a cell is worked out once.
        in_place = {}
        return [self.worked(stage, x, row, in_place) for x in range(needed[LEFT], needed[RIGHT])]

    def worked(self, stage, x, y, in_place):
        numbers = [self.told(name, x + dx, y + dy, in_place) for name, dx, dy in self.stage_reads[stage]]
        return worth(self.works.formula(stage), self.works.measure, x, y, numbers)

    def told(self, name, x, y, in_place):
        way = self.layout.ways.get(name)
        if way is None:
            return picture_number(self.works, self.given, name, x, y)
        if way != "in":
            return self.boxed(name, x, y)
        if (name, x, y) not in in_place:
            in_place[(name, x, y)] = self.worked(name, x, y, in_place)
        return in_place[(name, x, y)]

    def boxed(self, stage, x, y):
        # A stage that is not due has no boxes, and no needed rectangle to find a slot by.
        if stage not in self.boxes:
            return 0
        rows = self.boxes[stage]
        slot = self.layout.slot(stage, y)
        column = x - self.layout.needed[stage][LEFT]
        if 0 <= slot < len(rows) and 0 <= column < len(rows[slot]):
            return rows[slot][column]
        return 0


def run(works, given, name, one, plan, deeds):
    layout = layout_for(works, name, one, plan)
    check_given(works, given)
    return rows_told(works, given, layout, deeds)


def made(works, given, name, one, plan):
    layout = layout_for(works, name, one, plan)
    check_given(works, given)
    return [numbers for row, numbers in rows_told(works, given, layout, deeds_of(layout))]


def rows_told(works, given, layout, deeds):
    machine = Machine(works, given, layout)
    told = []
    for deed in deeds:
        if deed[0] == "make":
            machine.make(deed[1], deed[2], deed[3])
        else:
            told.append((deed[1], machine.worked_row(layout.asked, deed[1])))
    return told
