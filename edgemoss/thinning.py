"""Shapes thinned cell by cell, and led back."""

from edgemoss.cells import marked, neighbours, rising
from edgemoss.errors import BadCell, NoCell, TooMany
from edgemoss.loose import loose_by
from edgemoss.shapes import check_finite


# Whether a cell is loose hangs on its neighbours alone, so when it goes, they alone are looked at once more.
def thinned(shape, kept):
    check_finite(shape)
    left = marked(shape[0])
    stays = marked(kept)
    asked = list(shape[0])
    taken = []
    while len(asked) > 0:
        cell = asked.pop()
        if may_go(left, stays, cell):
            left.pop(cell)
            taken.append(cell)
            asked.extend(neighbours(cell))
    return taken


def may_go(left, stays, cell):
    if cell not in left or cell in stays:
        return False
    return loose_by(cell, [other for other in neighbours(cell) if other in left])


def thinning_right(shape, kept, taken):
    check_finite(shape)
    left = marked(shape[0])
    stays = marked(kept)
    for cell in taken:
        if not may_go(left, stays, cell):
            return False
        left.pop(cell)
    return not any([may_go(left, stays, cell) for cell in shape[0]])


def left_by(shape, taken):
    check_finite(shape)
    left = marked(shape[0])
    for cell in taken:
        if cell not in left:
            raise NoCell("a cell is not there at its turn")
        left.pop(cell)
    return (rising(list(left)), False)


def undone(left, taken, many):
    check_finite(left)
    if many < 0 or many > len(taken):
        raise TooMany("not so many cells have been taken")
    there = marked(left[0])
    for place in range(len(taken) - 1, len(taken) - many - 1, -1):
        if taken[place] in there:
            raise BadCell(place)
        there[taken[place]] = True
    return (rising(list(there)), False)
