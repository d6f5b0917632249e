"""What is given to a works: for each picture its rows of numbers; how it is refused, and what a picture has."""

from stripmill.errors import BadGiven
from stripmill.formulas import rest


def check_given(works, given):
    for name in works.pictures():
        if not is_grid(given.get(name), works.size(name)):
            raise BadGiven(name)


def is_grid(rows, size):
    return is_list_of(rows, size[1]) and all([is_list_of(row, size[0]) for row in rows])


def is_list_of(things, count):
    return isinstance(things, list) and len(things) == count


def picture_number(works, given, name, x, y):
    size = works.size(name)
    if 0 <= x < size[0] and 0 <= y < size[1]:
        return rest(given[name][y][x], works.measure)
    return rest(works.rim(name), works.measure)
