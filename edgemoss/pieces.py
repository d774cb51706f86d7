"""Pieces: rising tuples of steps, and where they lie."""

from edgemoss.cells import all_sums, is_cell, rising
from edgemoss.errors import BadPiece, TooMany
from edgemoss.shapes import moved, outside, within
from edgemoss.turns import turned_cell

FARTHEST_STEP = 1000000
MOST_STEPS = 12
MOST_WIDE_STEPS = 400


def made_piece(cells):
    if not isinstance(cells, (list, tuple)) or len(cells) == 0:
        raise BadPiece("a piece is made of a list or a tuple with a step at least")
    for thing in cells:
        if not is_cell(thing, FARTHEST_STEP):
            raise BadPiece("a step is a tuple of two whole numbers within the bound")
    steps = rising(cells)
    if len(steps) > MOST_STEPS:
        raise BadPiece("more unlike steps than a piece has")
    return steps


def mirrored(piece):
    return rising([(-step[0], -step[1]) for step in piece])


def turned_piece(piece, turn):
    return rising([turned_cell(step, turn) for step in piece])


def check_wide(steps):
    if len(steps) > MOST_WIDE_STEPS:
        raise TooMany("more steps than a wide piece has")


def summed(one, other):
    steps = all_sums(one, other)
    check_wide(steps)
    return steps


# No sum has fewer steps than what it is the sum of, so one on the way is refused only where the last one is, too.
def times(piece, many):
    check_wide(piece)
    steps = piece
    for time in range(1, many):
        steps = summed(steps, piece)
    return steps


# A piece that lies at a cell is a finite shape by itself, and held against others as such.
def laid(piece, cell):
    return moved((piece, False), cell)


def whole_at(shape, piece, cell):
    return within(laid(piece, cell), shape)


def clear_at(shape, piece, cell):
    return within(laid(piece, cell), outside(shape))
