"""Papers that tell why a cell is left by a piece or not, and why it comes by closing or not."""

from edgemoss.cells import cell_less, cell_moved
from edgemoss.pieces import laid, mirrored, whole_at
from edgemoss.shapes import both, outside


def lacking_at(shape, piece, place):
    return both(laid(piece, place), outside(shape))[0]


def why_left(shape, piece, cell):
    places = [cell_less(cell, step) for step in piece]
    whole = [place for place in places if whole_at(shape, piece, place)]
    if len(whole) > 0:
        return ("stays", min(whole))
    return ("goes", [(place, lacking_at(shape, piece, place)[0]) for place in places])


def left_right(shape, piece, cell, told):
    if told[0] == "stays":
        return cell_less(cell, told[1]) in piece and whole_at(shape, piece, told[1])
    return told[0] == "goes" and goes_right(shape, piece, cell, told[1])


def goes_right(shape, piece, cell, rows):
    if len(rows) != len(piece):
        return False
    for step, row in zip(piece, rows):
        if row[0] != cell_less(cell, step) or row[1] not in lacking_at(shape, piece, row[0]):
            return False
    return True


# From where the steps lead to a cell, is where the mirrored piece lies there.
def led_to(shape, piece, cell):
    return both(laid(mirrored(piece), cell), shape)[0]


def why_filled(shape, piece, cell):
    cells = []
    for step in piece:
        leading = led_to(shape, piece, cell_moved(cell, step))
        if len(leading) == 0:
            return ("not", step)
        cells.append(leading[0])
    return ("comes", cells)


def filled_right(shape, piece, cell, told):
    if told[0] == "comes":
        return comes_right(shape, piece, cell, told[1])
    return told[0] == "not" and told[1] in piece and led_to(shape, piece, cell_moved(cell, told[1])) == ()


def comes_right(shape, piece, cell, cells):
    if len(cells) != len(piece):
        return False
    for step, leading in zip(piece, cells):
        if leading not in led_to(shape, piece, cell_moved(cell, step)):
            return False
    return True
