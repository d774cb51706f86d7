"""The rows of text that a desk is told, read into their first word and what stands behind it."""

from edgemoss.errors import NoText
from edgemoss.reading import Reader
from edgemoss.shapes import FARTHEST

LAST_TURN = 7
LONGEST_SIDE = 40

# What stands behind each first word.
FORMS = {
    "put": ("cell",),
    "take": ("cell",),
    "move": ("cell",),
    "turn": ("turn",),
    "out": (),
    "do": ("plan",),
    "thin": (),
    "back": (),
    "has": ("cell",),
    "count": (),
    "show": ("cell", "side", "side"),
    "why": ("cell", "plan"),
    "same": ("plan", "plan"),
    "parts": (),
    "holes": (),
    "deeds": (),
}


def read_row(row):
    if not isinstance(row, str):
        raise NoText(0)
    reader = Reader(row.split(" "), 0)
    word = reader.next_of(list(FORMS))
    told = []
    for kind in FORMS[word]:
        told.append(next_thing(reader, kind))
    reader.check_end()
    return (word, told)


def next_thing(reader, kind):
    if kind == "plan":
        return reader.whole_plan()
    if kind == "turn":
        return reader.next_number(0, LAST_TURN)
    if kind == "side":
        return reader.next_number(1, LONGEST_SIDE)
    return reader.next_cell(FARTHEST)
