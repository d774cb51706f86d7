"""Sizes: how often a piece can be taken and still leave a cell."""

from edgemoss.errors import NoCell
from edgemoss.growing import opened
from edgemoss.pieces import times
from edgemoss.shapes import both, check_finite, counted, has, outside


# Level 0 is the shape itself, which no piece has been taken for.
def level_of(shape, piece, many):
    if many == 0:
        return shape
    return opened(shape, times(piece, many))


def levels(shape, piece, most):
    return [level_of(shape, piece, many) for many in range(1, most + 1)]


# Each level lies within the one ahead of it, so the size is how many levels have the cell.
def size_of(shape, piece, cell, most):
    if not has(shape, cell):
        raise NoCell("sizes are told of cells of the shape alone")
    return len([level for level in levels(shape, piece, most) if has(level, cell)])


def counts(shape, piece, most):
    check_finite(shape)
    many = [counted(level) for level in [shape] + levels(shape, piece, most)]
    told = [many[size] - many[size + 1] for size in range(most)]
    return told + [many[most]]


# The higher level is asked for first, since it alone decides what is refused.
def band(shape, piece, low, high):
    higher = level_of(shape, piece, high)
    return both(level_of(shape, piece, low), outside(higher))[0]
