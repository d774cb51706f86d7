"""Answers: why a cell comes out of a plan, or can't."""

from edgemoss.least import bars, least_pieces
from edgemoss.pieces import clear_at, whole_at


def answer(plan, shape, cell):
    for steps in least_pieces(plan):
        if whole_at(shape, steps, cell):
            return ("piece", steps)
    clear = [steps for steps in bars(plan) if clear_at(shape, steps, cell)]
    return ("bar", clear[0])


def answer_right(plan, shape, cell, told):
    steps = told[1]
    if told[0] == "piece":
        return steps in least_pieces(plan) and whole_at(shape, steps, cell)
    if told[0] == "bar":
        return steps in bars(plan) and clear_at(shape, steps, cell)
    return False
