"""Least pieces and bars: the sets of steps that decide a plan, for every shape at once."""

from edgemoss.cells import cell_less, rising
from edgemoss.errors import TooMany
from edgemoss.pieces import laid
from edgemoss.plans import Both, Eat, Everything, Grow, Keep, Move, Nothing

MOST_SETS = 60
MOST_STEPS = 400
MIDDLE = (0, 0)


def least_pieces(plan):
    lists = [least_pieces(part) for part in plan.parts_in()]
    if isinstance(plan, Keep):
        return [(MIDDLE,)]
    if isinstance(plan, Nothing):
        return []
    if isinstance(plan, Everything):
        return [()]
    if isinstance(plan, Move):
        return all_moved(lists[0], cell_less(MIDDLE, plan.step))
    if isinstance(plan, Eat):
        return least_of_each([all_moved(lists[0], step) for step in plan.piece])
    if isinstance(plan, Grow):
        return least_of_any([all_moved(lists[0], cell_less(MIDDLE, step)) for step in plan.piece])
    if isinstance(plan, Both):
        return least_of_each(lists)
    return least_of_any(lists)


def bars(plan):
    return least_pieces(plan.about())


# A set crosses others just where it has, of each of them, a set of one step within it.
def crossed(sets):
    return least_of_each([[(step,) for step in steps] for steps in sets])


def all_moved(sets, step):
    return [laid(steps, step)[0] for steps in sets]


# The least sets that have, of each list, one within them. List is taken up behind list, so that each beginning of
# them is held against the bounds.
def least_of_each(lists):
    least = [()]
    for sets in lists:
        least = least_unions(least, sets)
    return least


# The least ones of all lists together, taken up likewise.
def least_of_any(lists):
    least = []
    for sets in lists:
        steps = all_steps(least + sets)
        least = sets_of(numbers_of(least + sets, steps), steps)
    return least


def least_unions(one, other):
    steps = all_steps(one + other)
    others = numbers_of(other, steps)
    unions = []
    for number in numbers_of(one, steps):
        unions.extend([number | another for another in others])
    return sets_of(unions, steps)


def all_steps(sets):
    steps = []
    for some in sets:
        steps.extend(some)
    return rising(steps)


# A set is told by a number with a bit for each of its steps: so it is seen at once whether one is within another.
def numbers_of(sets, steps):
    bits = {}
    bit = 1
    for step in steps:
        bits[step] = bit
        bit = bit * 2
    return [sum([bits[step] for step in some]) for some in sets]


# The least ones of the sets with these numbers, rising.
def sets_of(numbers, steps):
    return sorted([set_of(number, steps) for number in least_numbers(numbers)])


# A set within another one has the lesser number, so walked from the least on, what is kept is never dropped again.
def least_numbers(numbers):
    least = []
    for number in sorted(set(numbers)):
        if not any([kept & number == kept for kept in least]):
            least.append(number)
        if len(least) > MOST_SETS:
            raise TooMany("more least sets of steps than are told")
    return least


def set_of(number, steps):
    some = []
    left = number
    while left > 0:
        bit = left & -left
        some.append(steps[bit.bit_length() - 1])
        left = left - bit
    if len(some) > MOST_STEPS:
        raise TooMany("more steps than a least set of them has")
    return tuple(some)
