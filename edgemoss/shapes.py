"""Shapes: tuples (cells, rest), some cells or all but some."""

from edgemoss.cells import cell_moved, is_cell, rising
from edgemoss.errors import BadCell, Endless, TooMany

FARTHEST = 1000000000000
MOST_CELLS = 400


def made(cells, rest=False):
    for place, thing in enumerate(cells):
        if not is_cell(thing, FARTHEST):
            raise BadCell(place)
    unlike = rising(cells)
    if len(unlike) > MOST_CELLS:
        raise TooMany("more unlike cells than a shape is made of")
    return (unlike, rest)


def has(shape, cell):
    return (cell in shape[0]) != shape[1]


# With the outside of the other one, a shape that is within it has nothing in common.
def within(one, other):
    return both(one, outside(other)) == ((), False)


def both(one, other):
    if one[1] and other[1]:
        return (tuple(sorted(set(one[0]) | set(other[0]))), True)
    if one[1]:
        return (tuple(sorted(set(other[0]) - set(one[0]))), False)
    if other[1]:
        return (tuple(sorted(set(one[0]) - set(other[0]))), False)
    return (tuple(sorted(set(one[0]) & set(other[0]))), False)


# Either lacks just what both lack.
def either(one, other):
    return outside(both(outside(one), outside(other)))


def outside(shape):
    return (shape[0], not shape[1])


# All cells moved alike stay rising.
def moved(shape, step):
    return (tuple([cell_moved(cell, step) for cell in shape[0]]), shape[1])


def check_finite(shape):
    if shape[1]:
        raise Endless("this is told of finite shapes alone")


def counted(shape):
    if shape[1]:
        return None
    return len(shape[0])
