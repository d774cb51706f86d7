"""Cells and rows of cells: what the other files need of them."""


# True and False are numbers to Python, but none here.
def is_number(thing, bound):
    if isinstance(thing, bool) or not isinstance(thing, int):
        return False
    return -bound <= thing <= bound


def is_cell(thing, bound):
    if not isinstance(thing, tuple) or len(thing) != 2:
        return False
    return is_number(thing[0], bound) and is_number(thing[1], bound)


def cell_moved(cell, step):
    return (cell[0] + step[0], cell[1] + step[1])


def cell_less(cell, step):
    return (cell[0] - step[0], cell[1] - step[1])


def rising(cells):
    return tuple(sorted(set(cells)))


def all_sums(one, other):
    sums = []
    for step in other:
        sums.extend([cell_moved(cell, step) for cell in one])
    return rising(sums)
