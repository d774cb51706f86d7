"""Plans: what is made of a shape by eating, growing, moving, meeting and joining, put together."""

from edgemoss.cells import all_sums, cell_less, rising
from edgemoss.errors import TooMany
from edgemoss.growing import eaten, grown
from edgemoss.pieces import mirrored, turned_piece
from edgemoss.shapes import both, either, moved
from edgemoss.turns import check_turn, turned_cell

MOST_MADE = 2000
MOST_REACHED = 2000
MOST_PLANS = 40
DEEPEST = 12


def checked_shape(shape):
    if len(shape[0]) > MOST_MADE:
        raise TooMany("more cells than a plan makes")
    return shape


def number_words(numbers):
    return [str(number) for number in numbers]


def step_words(steps):
    told = []
    for step in steps:
        told.extend(number_words(step))
    return told


def piece_words(piece):
    return number_words([len(piece)]) + step_words(piece)


# The base does what is done by plans without a plan within them. Besides what is asked of them from outside, all have
# with_parts(parts), the same plan with others straight within it, and reach_by(reaches), its reach where those straight
# within it have these reaches.
class Plan:

    def by_turn(self, turn):
        check_turn(turn)
        return self

    def parts_in(self):
        return []

    def with_parts(self, parts):
        return self


class Keep(Plan):

    def done(self, shape):
        return checked_shape(shape)

    def about(self):
        return self

    def words(self):
        return ["keep"]

    def reach_by(self, reaches):
        return ((0, 0),)


class Nothing(Plan):

    def done(self, shape):
        return ((), False)

    def about(self):
        return Everything()

    def words(self):
        return ["none"]

    def reach_by(self, reaches):
        return ()


class Everything(Plan):

    def done(self, shape):
        return ((), True)

    def about(self):
        return Nothing()

    def words(self):
        return ["all"]

    def reach_by(self, reaches):
        return ()


class Move(Plan):

    def __init__(self, step, plan):
        self.step = step
        self.plan = plan

    def done(self, shape):
        return checked_shape(moved(self.plan.done(shape), self.step))

    def about(self):
        return Move(self.step, self.plan.about())

    def by_turn(self, turn):
        return Move(turned_cell(self.step, turn), self.plan.by_turn(turn))

    def parts_in(self):
        return [self.plan]

    def words(self):
        return ["move"] + number_words(self.step) + self.plan.words()

    def with_parts(self, parts):
        return Move(self.step, parts[0])

    def reach_by(self, reaches):
        return tuple([cell_less(step, self.step) for step in reaches[0]])


class Eat(Plan):

    def __init__(self, piece, plan):
        self.piece = piece
        self.plan = plan

    def done(self, shape):
        return checked_shape(eaten(self.plan.done(shape), self.piece))

    def about(self):
        return Grow(mirrored(self.piece), self.plan.about())

    def by_turn(self, turn):
        return Eat(turned_piece(self.piece, turn), self.plan.by_turn(turn))

    def parts_in(self):
        return [self.plan]

    def words(self):
        return ["eat"] + piece_words(self.piece) + self.plan.words()

    def with_parts(self, parts):
        return Eat(self.piece, parts[0])

    def reach_by(self, reaches):
        return all_sums(reaches[0], self.piece)


class Grow(Plan):

    def __init__(self, piece, plan):
        self.piece = piece
        self.plan = plan

    def done(self, shape):
        return checked_shape(grown(self.plan.done(shape), self.piece))

    def about(self):
        return Eat(mirrored(self.piece), self.plan.about())

    def by_turn(self, turn):
        return Grow(turned_piece(self.piece, turn), self.plan.by_turn(turn))

    def parts_in(self):
        return [self.plan]

    def words(self):
        return ["grow"] + piece_words(self.piece) + self.plan.words()

    def with_parts(self, parts):
        return Grow(self.piece, parts[0])

    def reach_by(self, reaches):
        return all_sums(reaches[0], mirrored(self.piece))


class Both(Plan):

    def __init__(self, one, other):
        self.one = one
        self.other = other

    def done(self, shape):
        return checked_shape(both(self.one.done(shape), self.other.done(shape)))

    def about(self):
        return Either(self.one.about(), self.other.about())

    def by_turn(self, turn):
        return Both(self.one.by_turn(turn), self.other.by_turn(turn))

    def parts_in(self):
        return [self.one, self.other]

    def words(self):
        return ["both"] + self.one.words() + self.other.words()

    def with_parts(self, parts):
        return Both(parts[0], parts[1])

    def reach_by(self, reaches):
        return rising(reaches[0] + reaches[1])


class Either(Plan):

    def __init__(self, one, other):
        self.one = one
        self.other = other

    def done(self, shape):
        return checked_shape(either(self.one.done(shape), self.other.done(shape)))

    def about(self):
        return Both(self.one.about(), self.other.about())

    def by_turn(self, turn):
        return Either(self.one.by_turn(turn), self.other.by_turn(turn))

    def parts_in(self):
        return [self.one, self.other]

    def words(self):
        return ["either"] + self.one.words() + self.other.words()

    def with_parts(self, parts):
        return Either(parts[0], parts[1])

    def reach_by(self, reaches):
        return rising(reaches[0] + reaches[1])


def many_in(plan):
    return 1 + sum([many_in(part) for part in plan.parts_in()])


def deep(plan):
    return 1 + max([deep(part) for part in plan.parts_in()], default=0)


def checked_plan(plan):
    if many_in(plan) > MOST_PLANS or deep(plan) > DEEPEST:
        raise TooMany("more plans in one, or deeper ones, than a plan has")
    return plan


def opening(piece, plan):
    return checked_plan(Grow(piece, Eat(piece, plan)))


def closing(piece, plan):
    return checked_plan(Eat(piece, Grow(piece, plan)))


def after(one, other):
    return checked_plan(in_place_of_keep(one, other))


def in_place_of_keep(one, other):
    if isinstance(other, Keep):
        return one
    return other.with_parts([in_place_of_keep(one, part) for part in other.parts_in()])


def reach(plan):
    steps = plan.reach_by([reach(part) for part in plan.parts_in()])
    if len(steps) > MOST_REACHED:
        raise TooMany("more steps than a reach has")
    return steps
