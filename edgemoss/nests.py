"""Nests: which parts lie in which holes, and which holes in which parts."""

from edgemoss.cells import cell_less
from edgemoss.parts import holes, parts


def lies_in(shape):
    regions = holes(shape)
    return [holder_of(part, regions) for part in parts(shape)]


def held_by(shape):
    regions = holes(shape)
    holders = parts(shape)
    return [holder_of(hole, holders) for hole in regions]


# The number of the one that has the cell straight above the least of the cells; None where none has it.
def holder_of(cells, holders):
    above = cell_less(cells[0], (1, 0))
    for number, others in enumerate(holders):
        if above in others:
            return number
    return None


def nest(shape):
    return form_of(None, lies_in(shape), held_by(shape))


# Of a region, inner tells for each part in which region it lies, and across for each hole in which part; of a part it
# is the other way round, and so on inwards.
def form_of(number, inner, across):
    within = [place for place, holder in enumerate(inner) if holder == number]
    return tuple(sorted([form_of(place, across, inner) for place in within]))
