"""Loose cells: those that can go without parting anything."""

from edgemoss.cells import chains, neighbours, rising, sides
from edgemoss.errors import NoCell
from edgemoss.shapes import check_finite, has


def is_loose(shape, cell):
    return why_loose(shape, cell)[0] == "loose"


def why_loose(shape, cell):
    if not has(shape, cell):
        raise NoCell("loose are cells of the shape alone")
    return paper_by(cell, neighbours_in(shape, cell))


# Whether the cell itself is there changes nothing of its neighbours.
def may_come(shape, cell):
    if has(shape, cell):
        raise NoCell("the cell is there already")
    return loose_by(cell, neighbours_in(shape, cell))


def loose_cells(shape):
    check_finite(shape)
    return [cell for cell in shape[0] if is_loose(shape, cell)]


def neighbours_in(shape, cell):
    return [other for other in neighbours(cell) if has(shape, other)]


def loose_by(cell, there):
    return paper_by(cell, there)[0] == "loose"


# There are those of the eight neighbours that the shape has: they alone decide.
def paper_by(cell, there):
    if len(there) == 0:
        return ("alone",)
    lacking = [side for side in sides(cell) if side not in there]
    if len(lacking) == 0:
        return ("inner",)
    together = chains(there, neighbours)
    if len(together) > 1:
        return ("bridge", rising(together[0]))
    return ("loose", together[0], lacking[0])
