"""Cells and rows of cells: what the other files need of them."""


# True and False are numbers to Python, but none here.
def is_number(thing, bound):
    if isinstance(thing, bool) or not isinstance(thing, int):
        return False
    return -bound <= thing <= bound


def is_cell(thing, bound):
    if not isinstance(thing, tuple) or len(thing) != 2:
        return False
    return is_number(thing[0], bound) and is_number(thing[1], bound)


def cell_moved(cell, step):
    return (cell[0] + step[0], cell[1] + step[1])


def cell_less(cell, step):
    return (cell[0] - step[0], cell[1] - step[1])


def rising(cells):
    return tuple(sorted(set(cells)))


def all_sums(one, other):
    sums = []
    for step in other:
        sums.extend([cell_moved(cell, step) for cell in one])
    return rising(sums)


def marked(cells):
    told = {}
    for cell in cells:
        told[cell] = True
    return told


def sides(cell):
    row = cell[0]
    column = cell[1]
    return [(row - 1, column), (row, column - 1), (row, column + 1), (row + 1, column)]


def neighbours(cell):
    near = []
    for row in range(cell[0] - 1, cell[0] + 2):
        near.extend([(row, column) for column in range(cell[1] - 1, cell[1] + 2)])
    return [other for other in near if other != cell]


# The cells parted into those that hang together, the part with the least cell first; near tells which cells are led to
# from one. In each list a cell but the first one stands behind one that leads to it.
def chains(cells, near):
    left = marked(cells)
    told = []
    for cell in sorted(cells):
        if cell in left:
            told.append(taken_chain(left, cell, near))
    return told


def taken_chain(left, first, near):
    chain = [first]
    left.pop(first)
    place = 0
    while place < len(chain):
        here = chain[place]
        for other in near(here):
            if other in left:
                left.pop(other)
                chain.append(other)
        place = place + 1
    return chain
