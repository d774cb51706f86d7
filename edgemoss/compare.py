"""Plans held against one another: whether they do the same to every shape, or a shape by which they part."""

from edgemoss.least import least_pieces
from edgemoss.plans import after
from edgemoss.shapes import within


def inside(one, other):
    pieces = least_pieces(one)
    others = least_pieces(other)
    alone = without_others(pieces, others)
    if len(alone) > 0:
        return ("parted", fewest_steps(alone))
    return ("inside", [(piece, others_within(piece, others)[0]) for piece in pieces])


# One of those with the fewest steps, of these the least; None where there are none.
def fewest_steps(sets):
    return min(sets, key=lambda steps: (len(steps), steps), default=None)


def others_within(piece, others):
    return [other for other in others if within((other, False), (piece, False))]


def without_others(pieces, others):
    return [piece for piece in pieces if others_within(piece, others) == []]


def alike(one, other):
    pieces = least_pieces(one)
    others = least_pieces(other)
    parting = [(len(piece), 0, piece) for piece in without_others(pieces, others)]
    parting.extend([(len(piece), 1, piece) for piece in without_others(others, pieces)])
    if parting == []:
        return ("alike",)
    least = min(parting)
    return ("parted", least[2], least[1])


def again(plan):
    told = alike(plan, after(plan, plan))
    if told[0] == "alike":
        return None
    return (told[1], told[2])
