"""What a plan costs: how often each formula is worked out, and how many boxes there are."""

from stripmill.flat import room_of
from stripmill.formulas import reads_of
from stripmill.layout import layout_for
from stripmill.rectangles import many


def work(works, name, one, plan):
    return list(counts_of(works, layout_for(works, name, one, plan)).items())


def counts_of(works, layout):
    stages = list(layout.ways) + [layout.asked]
    counts = {}
    for stage in stages:
        counts[stage] = 0 if layout.ways.get(stage) == "in" else many(layout.needed[stage])
    # Upwards, so that an "in" stage has been asked for by all its readers ahead of its asking for what it reads.
    for reader in reversed(stages):
        for name, dx, dy in reads_of(works.formula(reader)):
            if layout.ways.get(name) == "in":
                counts[name] += counts[reader]
    return counts


def cost(works, name, one, plan, price):
    return cost_of(works, layout_for(works, name, one, plan), price)


def cost_of(works, layout, price):
    return sum(counts_of(works, layout).values()) + price * boxes_in(layout)


def boxes_in(layout):
    return sum([rows * width for stage, rows, left, width in room_of(layout)])
