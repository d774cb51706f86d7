"""Kinds of plans: whether one adds or loses, and whether it is an opening or a closing."""

from edgemoss.compare import fewest_steps
from edgemoss.growing import eaten
from edgemoss.least import MIDDLE, bars, least_pieces
from edgemoss.shapes import both, outside


def adds(plan):
    return fewest_steps(without_middle(least_pieces(plan)))


def loses(plan):
    return fewest_steps(without_middle(bars(plan)))


def without_middle(sets):
    return [steps for steps in sets if MIDDLE not in steps]


def opening_by(plan):
    return kept_by(least_pieces(plan), "opening", "adds")


# The bars are the least pieces of the plan turned about.
def closing_by(plan):
    return kept_by(bars(plan), "closing", "loses")


def kept_by(sets, all_kept, lacks_middle):
    for steps in sets:
        if MIDDLE not in steps:
            return (lacks_middle, steps)
        worn = worn_cells(steps, sets)
        if len(worn) > 0:
            return ("wears", steps, worn[0])
    return (all_kept, sets)


# Told by the least pieces alone and not by what a plan does, which would refuse shapes with many cells. A piece with
# more steps than there are cells lies whole nowhere.
def worn_cells(cells, sets):
    left = (cells, False)
    for steps in sets:
        if len(steps) <= len(cells) and len(left[0]) > 0:
            left = both(left, outside(eaten((cells, False), steps)))
    return left[0]
