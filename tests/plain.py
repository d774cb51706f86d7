"""A plain reckoning of the tests' own, cell by cell, and what is handed in by several tests."""

import random

BOUND = 10 ** 12
FAR = [(BOUND, BOUND), (-BOUND, -BOUND), (BOUND, 0), (0, -BOUND), (123456, -654321)]


def holds(shape, cell):
    """Whether the shape has the cell, by the words of 0.7 alone."""
    stands = any(cell == other for other in shape[0])
    return not stands if shape[1] else stands


def window(shapes, margin=2):
    """All cells about the cells of the shapes, and some far away."""
    cells = [cell for shape in shapes for cell in shape[0]] or [(0, 0)]
    rows = [cell[0] for cell in cells]
    columns = [cell[1] for cell in cells]
    near = [
        (r, c)
        for r in range(min(rows) - margin, max(rows) + margin + 1)
        for c in range(min(columns) - margin, max(columns) + margin + 1)
    ]
    return near + FAR


def is_rising(cells):
    return all(cells[k] < cells[k + 1] for k in range(len(cells) - 1))


def is_cell(thing):
    return type(thing) is tuple and len(thing) == 2 and all(type(x) is int for x in thing)


def is_piece(thing):
    return type(thing) is tuple and len(thing) > 0 and all(map(is_cell, thing)) and is_rising(thing)


def is_shape(thing):
    """Whether it has just the kinds that 0.7 tells, its cells rising."""
    if type(thing) is not tuple or len(thing) != 2 or type(thing[1]) is not bool:
        return False
    return type(thing[0]) is tuple and all(map(is_cell, thing[0])) and is_rising(thing[0])


def some_cells(dice, many, span):
    """At most so many unlike cells, rising."""
    return tuple(sorted({(dice.randint(-span, span), dice.randint(-span, span)) for _ in range(many)}))


def some_shapes(seed, many, most=10, span=3):
    """Shapes with the rest and without it, the empty one and that of all cells among them."""
    dice = random.Random(seed)
    told = [((), False), ((), True)]
    while len(told) < many:
        told.append((some_cells(dice, dice.randint(0, most), span), dice.random() < 0.5))
    return told


def some_pieces(seed, many, most=5, span=2):
    dice = random.Random(seed)
    return [some_cells(dice, dice.randint(1, most), span) for _ in range(many)]


def plus(cell, step):
    return (cell[0] + step[0], cell[1] + step[1])


def minus(cell, step):
    return (cell[0] - step[0], cell[1] - step[1])


def lies_whole(shape, piece, place):
    return all(holds(shape, plus(step, place)) for step in piece)


def lies_clear(shape, piece, place):
    return not any(holds(shape, plus(step, place)) for step in piece)


def in_grown(shape, piece, cell):
    return any(holds(shape, minus(cell, step)) for step in piece)


def in_opened(shape, piece, cell):
    return any(lies_whole(shape, piece, minus(cell, step)) for step in piece)


def in_closed(shape, piece, cell):
    return all(in_grown(shape, piece, plus(cell, step)) for step in piece)


def square(rows, columns, stride=1):
    """So many rows and columns of cells, rising."""
    return tuple((r * stride, c * stride) for r in range(rows) for c in range(columns))
