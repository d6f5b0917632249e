"""Texts of works and of plans: how they are written, and how they are read."""

from stripmill.errors import BadText
from stripmill.names import is_name
from stripmill.plans import WAYS
from stripmill.row_parts import RowParts
from stripmill.works import Works


def works_shown(works):
    rows = [row_shown(["measure", works.measure])]
    for name in works.pictures():
        size = works.size(name)
        rows.append(row_shown(["picture", name, size[0], size[1], works.rim(name)]))
    for name in works.stages():
        rows.append(row_shown(["stage", name, "=", formula_shown(works.formula(name))]))
    return "\n".join(rows)


def row_shown(parts):
    return " ".join([str(part) for part in parts])


def formula_shown(formula):
    inside = row_shown([formula_shown(part) if isinstance(part, tuple) else part for part in formula])
    return f"({inside})"


def works_read(text):
    rows = text.split("\n")
    measure = measure_read(RowParts(0, rows[0]))
    pictures = []
    stages = []
    for row in range(1, len(rows)):
        parts = RowParts(row, rows[row])
        # Behind a stage there is no picture any more: read as a stage it is refused.
        if len(stages) == 0 and rows[row].startswith("picture "):
            pictures.append(picture_read(parts))
        else:
            stages.append(stage_read(parts))
    return Works(measure, pictures, stages)


def measure_read(parts):
    parts.take_just("measure")
    measure = parts.take_number()
    parts.take_end()
    return measure


def picture_read(parts):
    parts.take_just("picture")
    picture = (parts.take_name(), parts.take_number(), parts.take_number(), parts.take_number())
    parts.take_end()
    return picture


def stage_read(parts):
    parts.take_just("stage")
    name = parts.take_name()
    parts.take_just("=")
    formula = parts.take_formula()
    parts.take_end()
    return (name, formula)


def plan_shown(plan):
    return ", ".join([row_shown(pair) for pair in plan])


def plan_read(text):
    if text == "":
        return []
    return [pair_read(part) for part in text.split(", ")]


def pair_read(text):
    pair = text.split(" ")
    if len(pair) != 2 or not is_name(pair[0]) or pair[1] not in WAYS:
        raise BadText(0)
    return (pair[0], pair[1])
