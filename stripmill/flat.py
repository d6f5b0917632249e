"""Flat deeds: the rows of a plan in the order in which they are made and told, and the room that they are kept in."""

from stripmill.layout import layout_for
from stripmill.rectangles import BOTTOM, LEFT, RIGHT, TOP


def flat(works, name, one, plan):
    return deeds_of(layout_for(works, name, one, plan))


def deeds_of(layout):
    deeds = []
    for stage in layout.kept:
        if layout.ways[stage] == "whole":
            deeds.extend(whole_deeds(layout, stage))
    for beat in layout.beats():
        deeds.extend(beat_deeds(layout, beat))
    return deeds


def whole_deeds(layout, stage):
    needed = layout.needed[stage]
    return [make_deed(layout, stage, row) for row in range(needed[TOP], needed[BOTTOM])]


def beat_deeds(layout, beat):
    deeds = []
    for stage in layout.strips:
        row = layout.row_in(beat, stage)
        if row is not None:
            deeds.append(make_deed(layout, stage, row))
    told = layout.row_in(beat, layout.asked)
    if told is not None:
        deeds.append(("tell", told))
    return deeds


def make_deed(layout, stage, row):
    return ("make", stage, row, layout.slot(stage, row))


def room(works, name, one, plan):
    return room_of(layout_for(works, name, one, plan))


def room_of(layout):
    return [stage_room(layout, stage) for stage in layout.kept]


def stage_room(layout, stage):
    needed = layout.needed[stage]
    return (stage, layout.rows_kept(stage), needed[LEFT], needed[RIGHT] - needed[LEFT])
