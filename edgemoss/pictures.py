"""Pictures: shapes drawn as texts, and read out of them."""

from edgemoss.errors import NoText
from edgemoss.shapes import has


def drawn(shape, top, left, rows, columns):
    return "\n".join([drawn_row(shape, row, left, columns) for row in range(top, top + rows)])


def drawn_row(shape, row, left, columns):
    signs = ["#" if has(shape, (row, column)) else "." for column in range(left, left + columns)]
    return "".join(signs)


# Row by row and sign by sign from the left on, the cells come rising.
def read_picture(text, top=0, left=0):
    rows = text.split("\n")
    cells = []
    for place, row in enumerate(rows):
        if row == "" or len(row) != len(rows[0]) or any([sign not in "#." for sign in row]):
            raise NoText(place)
        cells.extend([(top + place, left + column) for column, sign in enumerate(row) if sign == "#"])
    return (tuple(cells), False)
