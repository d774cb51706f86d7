"""The eight turns of cells and of shapes."""

from edgemoss.cells import rising
from edgemoss.errors import BadTurn


def check_turn(turn):
    if turn < 0 or turn > 7:
        raise BadTurn("turns are numbered from 0 to 7")


def turned_cell(cell, turn):
    check_turn(turn)
    here = cell
    if turn // 4 == 1:
        here = (here[0], -here[1])
    for quarter in range(turn % 4):
        here = (here[1], -here[0])
    return here


# Checked by itself, since a shape may have no cell that would be turned.
def turned(shape, turn):
    check_turn(turn)
    return (rising([turned_cell(cell, turn) for cell in shape[0]]), shape[1])


# A turn that mirrors leads back by itself, whatever it is led on behind that.
def back_of(turn):
    check_turn(turn)
    if turn // 4 == 1:
        return turn
    return (4 - turn) % 4


# Mirroring turns the way round in which the quarters ahead of it lead.
def turned_on(one, other):
    check_turn(one)
    check_turn(other)
    mirrorings = (one // 4 + other // 4) % 2
    if other // 4 == 1:
        quarters = (other - one) % 4
    else:
        quarters = (other + one) % 4
    return mirrorings * 4 + quarters
