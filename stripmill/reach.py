"""What an asked part touches: its own cells, and whatever is read for them, all the way up."""

from stripmill.formulas import reads_of
from stripmill.rectangles import cells_of


# Each cell keeps the (name, x, y) of a cell that reads it, and the asked ones None: so a way down to it can be told.
def reach(works, name, one):
    cells = {}
    for known in works.names():
        cells[known] = {}
    for asked in cells_of(one):
        cells[name][asked] = None
    # A stage is read by stages below it alone, so upwards all its cells are there ahead of what they read.
    for stage in reversed(works.stages()):
        touch_reads(cells, stage, reads_of(works.formula(stage)))
    return cells


def touch_reads(cells, stage, reads):
    for x, y in list(cells[stage]):
        reader = (stage, x, y)
        for name, dx, dy in reads:
            cells[name].setdefault((x + dx, y + dy), reader)
