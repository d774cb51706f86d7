"""Parts and holes of finite shapes, and how many more parts than holes there are."""

from edgemoss.cells import all_sums, cell_less, chains, marked, neighbours, rising, sides
from edgemoss.errors import NoCell, TooWide
from edgemoss.shapes import check_finite

TOO_WIDE = 40
SQUARE = ((0, 0), (0, 1), (1, 0), (1, 1))


def parts(shape):
    check_finite(shape)
    return [rising(chain) for chain in chains(shape[0], neighbours)]


def part_of(shape, cell):
    for part in parts(shape):
        if cell in part:
            return part
    raise NoCell("parts are told of cells of the shape alone")


# The cells all around belong to the outside, which so has the least one of the cells that are looked at.
def holes(shape):
    check_finite(shape)
    if len(shape[0]) == 0:
        return []
    return [rising(chain) for chain in chains(lacking_about(shape), sides)[1:]]


# All cells that the shape lacks, of the rows and columns it spans and one more on each side.
def lacking_about(shape):
    there = marked(shape[0])
    rows = spanned([cell[0] for cell in shape[0]])
    columns = spanned([cell[1] for cell in shape[0]])
    lacking = []
    for row in rows:
        lacking.extend([(row, column) for column in columns if (row, column) not in there])
    return lacking


def spanned(numbers):
    least = min(numbers)
    most = max(numbers)
    if most - least >= TOO_WIDE:
        raise TooWide("holes are told of shapes that span fewer rows and columns")
    return list(range(least - 1, most + 2))


# A cell is in the four squares whose last cells are where the square's steps lead from it.
def surplus(shape):
    check_finite(shape)
    there = marked(shape[0])
    quarters = 0
    for last in all_sums(shape[0], SQUARE):
        cells = [cell_less(last, step) for step in SQUARE]
        quarters = quarters + quarters_of([cell for cell in cells if cell in there])
    return quarters // 4


def quarters_of(cells):
    if len(cells) == 1:
        return 1
    if len(cells) == 3:
        return -1
    if len(cells) == 2 and cells[0][0] != cells[1][0] and cells[0][1] != cells[1][1]:
        return -2
    return 0
