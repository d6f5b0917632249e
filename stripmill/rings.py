"""Leads and rings: how far ahead of the asked rows a strip is made, how many of its rows are kept, and why so many."""

from stripmill.layout import layout_for
from stripmill.works import check_above


def leads(works, name, one, plan):
    layout = layout_for(works, name, one, plan)
    return [(stage, layout.lead[stage], layout.ring[stage]) for stage in layout.strips]


def lost(works, name, one, plan, stage):
    layout = layout_for(works, name, one, plan)
    check_above(stage, layout.strips)
    return first_lost(layout, stage, layout.ring[stage] - 1)


def first_lost(layout, stage, ring):
    for beat in layout.beats():
        for reader in layout.makers:
            for row in rows_read(layout, beat, reader, stage):
                if is_lost(layout, beat, stage, row, ring):
                    return (beat, reader, row)
    return None


def rows_read(layout, beat, reader, stage):
    made = layout.row_in(beat, reader)
    if made is None:
        return []
    return sorted([made + dy for dy in layout.steps_down(reader, stage)])


def is_lost(layout, beat, stage, row, ring):
    if ring == 0:
        return True
    newest = beat + layout.lead[stage]
    return any([layout.is_needed(stage, later) for later in range(row + ring, newest + 1, ring)])
