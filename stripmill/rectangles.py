"""Rectangles of cells: tuples (left, top, right, bottom), right and bottom just beyond the cells; None has no cell."""

# Where each side stands in a rectangle.
LEFT = 0
TOP = 1
RIGHT = 2
BOTTOM = 3


def rectangle(left, top, right, bottom):
    if left < right and top < bottom:
        return (left, top, right, bottom)
    return None


def moved(one, dx, dy):
    if one is None:
        return None
    return (one[LEFT] + dx, one[TOP] + dy, one[RIGHT] + dx, one[BOTTOM] + dy)


def meet(one, other):
    if one is None or other is None:
        return None
    return rectangle(
        max(one[LEFT], other[LEFT]),
        max(one[TOP], other[TOP]),
        min(one[RIGHT], other[RIGHT]),
        min(one[BOTTOM], other[BOTTOM]),
    )


def hull(one, other):
    if one is None:
        return other
    if other is None:
        return one
    return (
        min(one[LEFT], other[LEFT]),
        min(one[TOP], other[TOP]),
        max(one[RIGHT], other[RIGHT]),
        max(one[BOTTOM], other[BOTTOM]),
    )


def within(one, other):
    return meet(one, other) == one


def many(one):
    if one is None:
        return 0
    return (one[RIGHT] - one[LEFT]) * (one[BOTTOM] - one[TOP])


def without(one, other):
    if one is None:
        return []
    both = meet(one, other)
    if both is None:
        return [one]
    parts = [
        rectangle(one[LEFT], one[TOP], one[RIGHT], both[TOP]),
        rectangle(one[LEFT], both[TOP], both[LEFT], both[BOTTOM]),
        rectangle(both[RIGHT], both[TOP], one[RIGHT], both[BOTTOM]),
        rectangle(one[LEFT], both[BOTTOM], one[RIGHT], one[BOTTOM]),
    ]
    return [part for part in parts if part is not None]


def cells_of(one):
    cells = []
    for y in range(one[TOP], one[BOTTOM]):
        cells.extend([(x, y) for x in range(one[LEFT], one[RIGHT])])
    return cells


def around(cells):
    if len(cells) == 0:
        return None
    columns = [x for x, y in cells]
    rows = [y for x, y in cells]
    return (min(columns), min(rows), max(columns) + 1, max(rows) + 1)
