"""What is needed of each picture and stage for an asked part."""

from stripmill.reach import reach
from stripmill.rectangles import around
from stripmill.works import check_known


def needs(works, name, one):
    check_known(works, name)
    cells = reach(works, name, one)
    return [(known, around(cells[known])) for known in works.names()]


def touched(works, name, one, other):
    check_known(works, name)
    check_known(works, other)
    return sorted(reach(works, name, one)[other], key=row_then_column)


def row_then_column(spot):
    return (spot[1], spot[0])


def chain(works, name, one, other, side):
    check_known(works, name)
    check_known(works, other)
    cells = reach(works, name, one)
    if len(cells[other]) == 0:
        return None
    return links_to(cells, other, spot_on(side, cells[other]))


def links_to(cells, name, spot):
    links = []
    link = (name, spot[0], spot[1])
    while link is not None:
        links.append(link)
        link = cells[link[0]][(link[1], link[2])]
    return list(reversed(links))


def spot_on(side, spots):
    if side == "left":
        return min(spots, key=lambda spot: spot[0])
    if side == "top":
        return min(spots, key=lambda spot: spot[1])
    if side == "right":
        return max(spots, key=lambda spot: spot[0])
    return max(spots, key=lambda spot: spot[1])
