"""What a works means: what each picture and stage has in a cell."""

from stripmill.formulas import reads_of, worth
from stripmill.given import check_given, picture_number
from stripmill.reach import reach
from stripmill.rectangles import BOTTOM, LEFT, RIGHT, TOP
from stripmill.works import check_known


def cell(works, given, name, x, y):
    return picture(works, given, name, (x, y, x + 1, y + 1))[0][0]


def picture(works, given, name, one):
    check_known(works, name)
    check_given(works, given)
    numbers = numbers_reached(works, given, reach(works, name, one))[name]
    return [row_of(numbers, one, y) for y in range(one[TOP], one[BOTTOM])]


def row_of(numbers, one, y):
    return [numbers[(x, y)] for x in range(one[LEFT], one[RIGHT])]


# From the top down, so that each cell is worked out once, and what it reads is there ahead of it.
def numbers_reached(works, given, cells):
    numbers = {}
    for name in works.pictures():
        numbers[name] = picture_numbers(works, given, name, cells[name])
    for name in works.stages():
        numbers[name] = stage_numbers(works, name, cells[name], numbers)
    return numbers


def picture_numbers(works, given, name, cells):
    found = {}
    for x, y in cells:
        found[(x, y)] = picture_number(works, given, name, x, y)
    return found


def stage_numbers(works, name, cells, numbers):
    formula = works.formula(name)
    reads = reads_of(formula)
    found = {}
    for x, y in cells:
        told = [numbers[above][(x + dx, y + dy)] for above, dx, dy in reads]
        found[(x, y)] = worth(formula, works.measure, x, y, told)
    return found
