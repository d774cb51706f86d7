"""Shapes grown, eaten, opened and closed by a piece."""

from edgemoss.cells import all_sums, cell_less, cell_moved
from edgemoss.pieces import mirrored


def grown(shape, piece):
    if shape[1]:
        return (places_within(shape[0], mirrored(piece)), True)
    return (all_sums(shape[0], piece), False)


def eaten(shape, piece):
    if shape[1]:
        return (all_sums(shape[0], mirrored(piece)), True)
    return (places_within(shape[0], piece), False)


def opened(shape, piece):
    return grown(eaten(shape, piece), piece)


def closed(shape, piece):
    return eaten(grown(shape, piece), piece)


# Asking for each step of the piece at each place takes long where both are many; so the piece is parted into runs,
# steps that follow one another by one stride, and each run is asked for at once.
def places_within(cells, piece):
    stride = common_stride(piece)
    lengths = run_lengths(cells, stride)
    places = [cell_less(cell, piece[0]) for cell in cells]
    for head, length in heads_of_runs(piece, stride):
        places = [place for place in places if lengths.get(cell_moved(place, head), 0) >= length]
    return tuple(places)


# The difference of two steps side by side that is met most often makes the fewest runs of such strides.
def common_stride(piece):
    met = {}
    for place in range(1, len(piece)):
        stride = cell_less(piece[place], piece[place - 1])
        met[stride] = met.get(stride, 0) + 1
    return max(list(met), key=lambda difference: met[difference], default=(0, 1))


# A stride leads to a greater cell, so walked from the greatest one on, each cell finds the one behind it told.
def run_lengths(cells, stride):
    lengths = {}
    for cell in reversed(cells):
        lengths[cell] = lengths.get(cell_moved(cell, stride), 0) + 1
    return lengths


def heads_of_runs(piece, stride):
    lengths = run_lengths(piece, stride)
    heads = [step for step in piece if cell_less(step, stride) not in lengths]
    return [(head, lengths[head]) for head in heads]
