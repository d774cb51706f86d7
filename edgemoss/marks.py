"""Marks: which cells, grown by a piece, are just a shape; and trees that show that no fewer are."""

from edgemoss.cells import cell_moved
from edgemoss.errors import NoMarks, TooMany
from edgemoss.growing import eaten
from edgemoss.shapes import check_finite

MOST_MARKS = 12


# For each cell of the shape the places, rising, at which the piece lies whole in the shape and on that cell: all
# that is asked of marks is told by these.
def holders_of(shape, piece):
    check_finite(shape)
    holders = {}
    for cell in shape[0]:
        holders[cell] = []
    for place in eaten(shape, piece)[0]:
        for step in piece:
            holders[cell_moved(place, step)].append(place)
    return holders


def marks(shape, piece):
    holders = holders_of(shape, piece)
    bare = [cell for cell in shape[0] if holders[cell] == []]
    if len(bare) > 0:
        return ("bare", bare[0])
    return ("marks", eaten(shape, piece)[0])


def greatest_marks(shape, piece):
    told = marks(shape, piece)
    if told[0] == "bare":
        raise NoMarks("a cell of the shape goes")
    return told[1]


def sure(shape, piece):
    greatest = greatest_marks(shape, piece)
    holders = holders_of(shape, piece)
    told = []
    for mark in greatest:
        alone = [cell for cell in shape[0] if holders[cell] == [mark]]
        if len(alone) > 0:
            told.append((mark, alone[0]))
    return told


def few_holders(shape, piece):
    if len(greatest_marks(shape, piece)) > MOST_MARKS:
        raise TooMany("more greatest marks than are gone through")
    return holders_of(shape, piece)


def is_held(places, taken):
    return any([place in taken for place in places])


# A cell that few marks hold makes few cases. None where no cell is left to be held.
def hardest(holders, taken):
    left = [cell for cell in holders if not is_held(holders[cell], taken)]
    return min(left, key=lambda cell: len(holders[cell]), default=None)


# Some marks with so many cells, or fewer, besides those taken; None where there are none.
def taken_on(holders, taken, many):
    cell = hardest(holders, taken)
    if cell is None:
        return taken
    if many == 0:
        return None
    for mark in holders[cell]:
        found = taken_on(holders, taken + [mark], many - 1)
        if found is not None:
            return found
    return None


def fewest(shape, piece):
    holders = few_holders(shape, piece)
    many = 0
    found = taken_on(holders, [], many)
    while found is None:
        many = many + 1
        found = taken_on(holders, [], many)
    return tuple(sorted(found))


def tree_for(holders, taken, many):
    cell = hardest(holders, taken)
    if many == 0:
        return (cell, [])
    return (cell, [(mark, tree_for(holders, taken + [mark], many - 1)) for mark in holders[cell]])


def fewer_paper(shape, piece):
    many = len(fewest(shape, piece))
    if many == 0:
        return None
    return tree_for(few_holders(shape, piece), [], many - 1)


def fewer_right(shape, piece, many, tree):
    return tree_right(holders_of(shape, piece), [], many, tree)


def tree_right(holders, taken, many, tree):
    cell = tree[0]
    cases = tree[1]
    if cell not in holders or is_held(holders[cell], taken):
        return False
    if many == 0:
        return cases == []
    if [case[0] for case in cases] != holders[cell]:
        return False
    for case in cases:
        if not tree_right(holders, taken + [case[0]], many - 1, case[1]):
            return False
    return True
