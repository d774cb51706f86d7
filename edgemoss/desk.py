"""The desk: a shape, led on by deeds and asked by questions, each a row of text."""

from edgemoss.answers import answer
from edgemoss.cells import is_cell
from edgemoss.compare import alike
from edgemoss.errors import BadDeed, TooMany
from edgemoss.parts import holes, parts
from edgemoss.pictures import drawn
from edgemoss.plans import step_words
from edgemoss.rows import read_row
from edgemoss.shapes import FARTHEST, MOST_CELLS, both, counted, either, has, moved, outside
from edgemoss.thinning import left_by, thinned
from edgemoss.turns import turned


# Deeds are told the shape and what stands behind their word, and tell the shape behind them.
def put_cell(shape, told):
    return either(shape, ((told[0],), False))


def take_cell(shape, told):
    return both(shape, ((told[0],), True))


def move_all(shape, told):
    return moved(shape, told[0])


def turn_all(shape, told):
    return turned(shape, told[0])


def turn_out(shape, told):
    return outside(shape)


def do_plan(shape, told):
    return told[0].done(shape)


def thin_out(shape, told):
    return left_by(shape, thinned(shape, []))


# Questions are told the same, and tell a text.
def tell_has(shape, told):
    return "yes" if has(shape, told[0]) else "no"


def tell_count(shape, told):
    many = counted(shape)
    return "endless" if many is None else str(many)


def tell_picture(shape, told):
    corner = told[0]
    return drawn(shape, corner[0], corner[1], told[1], told[2])


def tell_why(shape, told):
    found = answer(told[1], shape, told[0])
    return " ".join([found[0]] + step_words(found[1]))


def tell_same(shape, told):
    found = alike(told[0], told[1])
    if found[0] == "alike":
        return "same"
    by_which = "first" if found[2] == 0 else "second"
    return " ".join(["unlike", by_which] + step_words(found[1]))


def tell_parts(shape, told):
    return str(len(parts(shape)))


def tell_holes(shape, told):
    return str(len(holes(shape)))


DEEDS = {
    "put": put_cell,
    "take": take_cell,
    "move": move_all,
    "turn": turn_all,
    "out": turn_out,
    "do": do_plan,
    "thin": thin_out,
}
QUESTIONS = {
    "has": tell_has,
    "count": tell_count,
    "show": tell_picture,
    "why": tell_why,
    "same": tell_same,
    "parts": tell_parts,
    "holes": tell_holes,
}


def check_kept(shape):
    if len(shape[0]) > MOST_CELLS or not all([is_cell(cell, FARTHEST) for cell in shape[0]]):
        raise TooMany("more cells, or farther ones, than a desk keeps")


class Desk:

    def __init__(self):
        self.now = ((), False)
        self.earlier = []

    def shape(self):
        return self.now

    def say(self, row):
        found = read_row(row)
        word = found[0]
        if word in DEEDS:
            deed = DEEDS[word]
            return self.go_on(deed(self.now, found[1]))
        if word == "back":
            return self.go_back()
        if word == "deeds":
            return str(len(self.earlier))
        question = QUESTIONS[word]
        return question(self.now, found[1])

    def go_on(self, shape):
        check_kept(shape)
        self.earlier.append(self.now)
        self.now = shape
        return "ok"

    def go_back(self):
        if len(self.earlier) == 0:
            raise BadDeed("no deed is left to be taken back")
        self.now = self.earlier.pop()
        return "ok"
