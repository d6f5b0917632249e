"""Plans: the way in which each stage above the asked one is made, what is read then, and what a plan fails by."""

from stripmill.errors import BadPlan
from stripmill.formulas import reads_of
from stripmill.works import check_above

WAYS = ("in", "whole", "strip")
MOST_ASKINGS = 300


def kept_reads(works, plan, reader):
    return reads_by_ways(works, dict(plan), reader)


# An "in" stage is gone into only from its readers: one that no kept stage reads may have far too many reads to list.
def reads_by_ways(works, ways, reader):
    reads = []
    for name, dx, dy in reads_of(works.formula(reader)):
        if ways.get(name) == "in":
            reads.extend(reads_moved(reads_by_ways(works, ways, name), dx, dy))
        else:
            reads.append((name, dx, dy))
    return reads


def reads_moved(reads, dx, dy):
    return [(name, dx + further_x, dy + further_y) for name, further_x, further_y in reads]


def fault(works, name, plan):
    check_above(name, works.stages())
    above = stages_above(works, name)
    if not is_plan(plan, above):
        return ("plan",)
    ways = dict(plan)
    reader = first_big(works, ways, above + [name])
    if reader is not None:
        return ("big", reader)
    # Behind the askings: by now the kept reads are few enough to be listed.
    for stage in above:
        if ways[stage] == "whole" and reads_a_strip(works, ways, stage):
            return ("strip", stage)
    return None


def check_plan(works, name, plan):
    if fault(works, name, plan) is not None:
        raise BadPlan("the plan does not let itself be done for this stage")


def stages_above(works, name):
    stages = works.stages()
    return stages[:stages.index(name)]


def is_plan(plan, above):
    return [stage for stage, way in plan] == above and all([way in WAYS for stage, way in plan])


def first_big(works, ways, stages):
    counts = askings(works, ways, stages)
    for reader in stages:
        if ways.get(reader) != "in" and counts[reader] > MOST_ASKINGS:
            return reader
    return None


# Counted from the top down and never listed, as there may be far too many.
def askings(works, ways, stages):
    counts = {}
    for stage in stages:
        names = [name for name, dx, dy in reads_of(works.formula(stage))]
        counts[stage] = len(names) + sum([counts[name] for name in names if ways.get(name) == "in"])
    return counts


def reads_a_strip(works, ways, stage):
    return any([ways.get(name) == "strip" for name, dx, dy in reads_by_ways(works, ways, stage)])
