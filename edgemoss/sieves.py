"""Sieves: which of two pieces leaves less than the other one, of every shape."""

from edgemoss.cells import cell_less
from edgemoss.papers import why_left
from edgemoss.pieces import laid


# What other leaves of one's own steps decides for every shape at once.
def sifts(one, other):
    places = []
    for step in one:
        paper = why_left((one, False), other, step)
        if paper[0] == "goes":
            return ("parted", step)
        places.append(paper[1])
    return ("within", places)


# The least steps of the two belong together, if any do.
def moved_by(one, other):
    step = cell_less(other[0], one[0])
    if laid(one, step)[0] == other:
        return step
    return None
