import copy
import itertools
import random
import unittest

from edgemoss.errors import BadTurn, TooMany
from edgemoss.growing import closed, opened
from edgemoss.plans import (
    Both, Eat, Either, Everything, Grow, Keep, Move, Nothing, Plan, after, closing, deep, many_in, opening, reach,
)
from edgemoss.shapes import moved, outside, within
from edgemoss.turns import turned
from plain import (
    CORNER, FAR, PAIR, check_own, comes_out, each_kind, is_cell, is_rising, is_shape, kind_of, minus, plans_in,
    plus, put_together, reach_in, some_cells, some_pieces, some_plans, some_shapes, spread, square, sums, text_of,
)

KINDS = [Keep, Nothing, Everything, Move, Eat, Grow, Both, Either]
EMPTY = ((), False)
ALL = ((), True)
# 400 cells that five steps, far from one another, grow to just 2000; the first two of them alone are side by side.
APART = (((0, 0), (0, 1)) + tuple((0, 3 * k) for k in range(1, 399)), False)
FIVE = spread(5, 10000)
# Makes just one cell, far away, of APART.
ONE_CELL = Move((0, -90000), Eat(PAIR, Keep()))
JUST_2000 = Grow(FIVE, Keep())
ONE_MORE = Either(JUST_2000, ONE_CELL)
ONE_MORE_LACKING = Both(Eat(FIVE, Keep()), ONE_CELL.about())


def asked_cells(plan, shape):
    """All cells at which anything can be unlike the cells far away, some about them, and some far away."""
    near = {minus(cell, step) for cell in shape[0] for step in reach_in(plan)}
    about = {plus(cell, step) for cell in near for step in ((0, 1), (-1, 0))}
    return sorted(near | about | set(shape[0])) + FAR


def chain(many, last=None):
    """A plan that is so many deep, with just as many plans in it."""
    plan = Keep() if last is None else last
    while deep(plan) < many:
        plan = Move((0, 1), plan)
    return plan


def bush(many):
    """A plan with so many plans in it, an odd number, and few of them deep."""
    if many == 1:
        return Keep()
    half = (many - 1) // 4 * 2 + 1
    return Both(bush(half), bush(many - 1 - half))


class Asked(unittest.TestCase):

    def setUp(self):
        self.plans = put_together() + some_plans(81, 80)
        self.shapes = some_shapes(82, 8, most=8, span=2) + [(square(3, 3), False), (square(2, 3), True)]

    def check_done(self, plan, shape, told):
        self.assertTrue(is_shape(told))
        for cell in asked_cells(plan, shape) + list(told[0][:30]):
            asked = comes_out(plan, shape, cell)
            self.assertEqual((cell in told[0]) != told[1], asked, text_of(plan))


class Kinds(unittest.TestCase):
    """5.1"""

    def test_straight_under_plan(self):
        for kind in KINDS:
            self.assertEqual(kind.__bases__, (Plan,))

    def test_fields(self):
        inner, other = Keep(), Nothing()
        plan = Move((3, -4), inner)
        self.assertEqual(plan.step, (3, -4))
        self.assertIs(plan.plan, inner)
        for kind in (Eat, Grow):
            plan = kind(CORNER, inner)
            self.assertEqual(plan.piece, CORNER)
            self.assertIs(plan.plan, inner)
        for kind in (Both, Either):
            plan = kind(inner, other)
            self.assertIs(plan.one, inner)
            self.assertIs(plan.other, other)

    def test_parts_in(self):
        one, other = Keep(), Nothing()
        for plan, asked in [
            (Keep(), []), (Nothing(), []), (Everything(), []), (Move((1, 1), one), [one]), (Eat(PAIR, one), [one]),
            (Grow(PAIR, one), [one]), (Both(one, other), [one, other]), (Either(other, one), [other, one]),
        ]:
            told = plan.parts_in()
            self.assertIs(type(told), list)
            self.assertEqual(len(told), len(asked))
            self.assertTrue(all(mine is theirs for mine, theirs in zip(told, asked)))

    def test_many_and_deep(self):
        for plan in put_together() + some_plans(83, 200, many=40, deep=12):
            self.assertEqual(many_in(plan), len(plans_in(plan)))
            depth = {"Keep": 1, "Nothing": 1, "Everything": 1}
            inner = [deep(part) for part in plan.parts_in()]
            self.assertEqual(deep(plan), depth.get(kind_of(plan)) or 1 + max(inner))

    def test_many_and_deep_by_hand(self):
        keep = Keep()
        plan = Both(Move((0, 0), keep), Either(keep, Eat(PAIR, Grow(PAIR, keep))))
        self.assertEqual((many_in(plan), deep(plan)), (8, 5))
        self.assertEqual((many_in(keep), deep(keep)), (1, 1))
        self.assertEqual((many_in(Both(keep, keep)), deep(Both(keep, keep))), (3, 2))

    def test_making_refuses_nothing(self):
        plan = Keep()
        for _ in range(60):
            plan = Move((0, 1), plan)
        self.assertEqual((many_in(plan), deep(plan)), (61, 61))


class Done(Asked):
    """5.1, 5.2, 5.3"""

    def test_against_the_plain_reckoning(self):
        for plan, shape in itertools.product(self.plans, self.shapes):
            self.check_done(plan, shape, plan.done(shape))

    def test_by_hand(self):
        shape = (((0, 0), (0, 1), (5, 5)), False)
        self.assertEqual(Keep().done(shape), shape)
        self.assertEqual(Nothing().done(shape), EMPTY)
        self.assertEqual(Everything().done(shape), ALL)
        self.assertEqual(Move((1, 2), Keep()).done(shape), (((1, 2), (1, 3), (6, 7)), False))
        self.assertEqual(Eat(PAIR, Keep()).done(shape), (((0, 0),), False))
        self.assertEqual(Grow(PAIR, Keep()).done(shape), (((0, 0), (0, 1), (0, 2), (5, 5), (5, 6)), False))
        self.assertEqual(Both(Keep(), Move((0, 1), Keep())).done(shape), (((0, 1),), False))
        self.assertEqual(Either(Nothing(), Keep()).done(shape), shape)
        self.assertEqual(Both(Everything(), Keep()).done((((1, 1),), True)), (((1, 1),), True))

    def test_within_another_one(self):
        dice = random.Random(84)
        for plan, shape in itertools.product(self.plans, self.shapes):
            cells = set(some_cells(dice, 6, 3))
            more = set(shape[0]) - cells if shape[1] else set(shape[0]) | cells
            self.assertTrue(within(plan.done(shape), plan.done((tuple(sorted(more)), shape[1]))))

    def test_of_a_moved_shape(self):
        for plan, shape in itertools.product(self.plans, self.shapes):
            self.assertEqual(plan.done(moved(shape, (7, -3))), moved(plan.done(shape), (7, -3)))

    def test_just_2000(self):
        self.assertEqual(len(APART[0]), 400)
        self.assertEqual(ONE_CELL.done(APART), (((0, -90000),), False))
        told = JUST_2000.done(APART)
        self.assertEqual((len(told[0]), told[1]), (2000, False))
        lacking = (APART[0], True)
        told = Eat(FIVE, Keep()).done(lacking)
        self.assertEqual((len(told[0]), told[1]), (2000, True))
        for plan in each_kind(JUST_2000):
            if kind_of(plan) == "Grow":
                self.assertRaises(TooMany, plan.done, APART)
            elif kind_of(plan) != "Either":
                plan.done(APART)

    def test_more_than_2000(self):
        self.assertRaises(TooMany, ONE_MORE.done, APART)
        self.assertRaises(TooMany, ONE_MORE_LACKING.done, (APART[0], True))
        self.assertRaises(TooMany, Grow(spread(6, 10000), Keep()).done, APART)
        self.assertRaises(TooMany, Eat(spread(6, 10000), Keep()).done, (APART[0], True))
        self.assertRaises(TooMany, Either(Keep(), Move((1, 0), ONE_MORE)).done, APART)

    def test_a_plan_within_is_refused_where_fewer_come_in_the_end(self):
        for big, shape in [(ONE_MORE, APART), (ONE_MORE_LACKING, (APART[0], True))]:
            for plan in [
                Both(Nothing(), big), Both(big, Nothing()), Either(Everything(), big), Either(big, Everything()),
                Eat(FIVE, big), Grow(FIVE, big), Move((4, 4), big), Both(Keep(), Eat(FIVE, Both(big, Keep()))),
            ]:
                self.assertRaises(TooMany, plan.done, shape)
        # The same plans make of 400 other cells, or of none, a shape that is not refused.
        self.assertEqual(Both(Nothing(), ONE_MORE).done(EMPTY), EMPTY)
        self.assertEqual(Both(Nothing(), ONE_MORE).done((spread(400, 3), False)), EMPTY)

    def test_a_shape_on_the_way_may_have_2000(self):
        self.assertEqual(Eat(FIVE, JUST_2000).done(APART), closed(APART, FIVE))
        self.assertEqual(Both(Nothing(), JUST_2000).done(APART), EMPTY)


class About(Asked):
    """5.4"""

    def test_by_its_text(self):
        keep, none, every = Keep(), Nothing(), Everything()
        for plan, asked in [
            (keep, "keep"), (none, "all"), (every, "none"), (Move((2, -3), none), "move 2 -3 all"),
            (Eat(CORNER, every), "grow 3 -3 1 0 0 1 -2 none"), (Grow(CORNER, keep), "eat 3 -3 1 0 0 1 -2 keep"),
            (Both(keep, none), "either keep all"), (Either(none, Eat(PAIR, keep)), "both all grow 2 0 -1 0 0 keep"),
        ]:
            self.assertEqual(text_of(plan.about()), asked)

    def test_by_what_it_makes(self):
        for plan, shape in itertools.product(self.plans, self.shapes):
            about = plan.about()
            self.assertIsInstance(about, Plan)
            self.assertEqual(about.done(shape), outside(plan.done(outside(shape))))

    def test_twice(self):
        for plan in self.plans:
            self.assertEqual(text_of(plan.about().about()), text_of(plan))

    def test_the_plan_stays(self):
        for plan in self.plans:
            ahead = text_of(plan)
            plan.about()
            plan.by_turn(5)
            self.assertEqual(text_of(plan), ahead)


class ByTurn(Asked):
    """5.5"""

    def test_by_all_eight(self):
        for plan, turn in itertools.product(self.plans, range(8)):
            told = plan.by_turn(turn)
            self.assertIsInstance(told, Plan)
            for shape in self.shapes[2::3]:
                self.assertEqual(told.done(turned(shape, turn)), turned(plan.done(shape), turn))

    def test_by_its_text(self):
        self.assertEqual(text_of(Move((1, 2), Keep()).by_turn(1)), "move 2 -1 keep")
        self.assertEqual(text_of(Move((1, 2), Nothing()).by_turn(4)), "move 1 -2 none")
        plan = Both(Eat(((0, 0), (0, 5)), Everything()), Grow(((0, 0), (1, 0)), Keep()))
        self.assertEqual(text_of(plan.by_turn(4)), "both eat 2 0 -5 0 0 all grow 2 0 0 1 0 keep")
        self.assertEqual(text_of(plan.by_turn(2)), "both eat 2 0 -5 0 0 all grow 2 -1 0 0 0 keep")
        for plan in self.plans:
            self.assertEqual(text_of(plan.by_turn(0)), text_of(plan))

    def test_pieces_are_rising(self):
        for plan, turn in itertools.product(self.plans, range(8)):
            for part in plans_in(plan.by_turn(turn)):
                if kind_of(part) in ("Eat", "Grow"):
                    self.assertTrue(is_rising(part.piece) and all(map(is_cell, part.piece)))

    def test_other_numbers(self):
        for plan, turn in itertools.product(put_together(), (-1, 8, -4, 12, 10 ** 20)):
            self.assertRaises(BadTurn, plan.by_turn, turn)


class PutTogether(Asked):
    """5.6"""

    def test_opening_and_closing(self):
        for piece, plan in itertools.product(some_pieces(85, 6), self.plans[::5]):
            self.assertEqual(text_of(opening(piece, plan)), text_of(Grow(piece, Eat(piece, plan))))
            self.assertEqual(text_of(closing(piece, plan)), text_of(Eat(piece, Grow(piece, plan))))
            for shape in self.shapes[::3]:
                made = plan.done(shape)
                self.assertEqual(opening(piece, plan).done(shape), opened(made, piece))
                self.assertEqual(closing(piece, plan).done(shape), closed(made, piece))

    def test_after(self):
        met = set()
        for one, other in itertools.product(self.plans[::7], self.plans[::5]):
            kept = [kind_of(part) for part in plans_in(other)].count("Keep")
            met.add(kept)
            if len(plans_in(other)) + kept * (len(plans_in(one)) - 1) > 40:
                self.assertRaises(TooMany, after, one, other)
                continue
            told = after(one, other)
            self.assertIsInstance(told, Plan)
            for shape in self.shapes[::4]:
                self.assertEqual(told.done(shape), other.done(one.done(shape)))
        self.assertGreater(len(met), 3)

    def test_after_by_its_text(self):
        one = Move((0, 7), Nothing())
        other = Both(Eat(PAIR, Keep()), Either(Everything(), Move((1, 1), Grow(PAIR, Keep()))))
        asked = "both eat 2 0 0 0 1 move 0 7 none either all move 1 1 grow 2 0 0 0 1 move 0 7 none"
        self.assertEqual(text_of(after(one, other)), asked)
        self.assertEqual(text_of(after(other, Keep())), text_of(other))
        self.assertEqual(text_of(after(Keep(), other)), text_of(other))
        self.assertEqual(text_of(after(other, Nothing())), "none")
        self.assertEqual(text_of(after(chain(12), Everything())), "all")

    def test_just_forty(self):
        for ask in (opening, closing):
            self.assertEqual(many_in(ask(PAIR, Move((0, 1), bush(37)))), 40)
            self.assertRaises(TooMany, ask, PAIR, bush(39))
        self.assertEqual(many_in(after(Move((0, 1), bush(37)), Move((0, 1), Move((0, 1), Keep())))), 40)
        self.assertRaises(TooMany, after, bush(39), Move((0, 1), Move((0, 1), Keep())))
        self.assertRaises(TooMany, after, Keep(), bush(41))

    def test_each_counts_as_often_as_it_stands_there(self):
        one = bush(19)
        self.assertEqual(many_in(after(one, Both(Keep(), Keep()))), 39)
        self.assertEqual(many_in(after(one, Move((0, 0), Both(Keep(), Keep())))), 40)
        self.assertRaises(TooMany, after, one, Move((0, 0), Move((0, 0), Both(Keep(), Keep()))))
        self.assertRaises(TooMany, after, bush(21), Both(Keep(), Keep()))

    def test_just_twelve(self):
        for ask in (opening, closing):
            self.assertEqual(deep(ask(PAIR, chain(10))), 12)
            self.assertRaises(TooMany, ask, PAIR, chain(11))
            self.assertEqual(deep(ask(PAIR, Both(Keep(), chain(9)))), 12)
            self.assertRaises(TooMany, ask, PAIR, Both(Keep(), chain(10)))
        self.assertEqual(deep(after(chain(7), chain(6))), 12)
        self.assertRaises(TooMany, after, chain(7), chain(7))
        # Only where a Keep lies deep does a plan come to lie deeper.
        side = Both(Keep(), chain(11, Nothing()))
        self.assertEqual(deep(after(chain(11), side)), 12)
        self.assertRaises(TooMany, after, chain(12), side)


class Reach(Asked):
    """5.7, 5.8"""

    def test_against_the_plain_reckoning(self):
        for plan in self.plans + some_plans(86, 60, many=12, deep=8):
            told = reach(plan)
            self.assertTrue(type(told) is tuple and is_rising(told) and all(map(is_cell, told)))
            self.assertEqual(told, reach_in(plan))

    def test_of_each_kind(self):
        inner = Grow(((0, 0), (1, 2)), Keep())
        for plan, asked in [
            (Keep(), ((0, 0),)), (Nothing(), ()), (Everything(), ()), (inner, ((-1, -2), (0, 0))),
            (Move((3, -1), inner), ((-4, -1), (-3, 1))), (Eat(PAIR, Keep()), PAIR),
            (Eat(PAIR, inner), ((-1, -2), (-1, -1), (0, 0), (0, 1))),
            (Grow(PAIR, inner), ((-1, -3), (-1, -2), (0, -1), (0, 0))),
            (Both(inner, Eat(PAIR, Keep())), ((-1, -2), (0, 0), (0, 1))),
            (Either(Nothing(), inner), ((-1, -2), (0, 0))), (Eat(PAIR, Everything()), ()),
        ]:
            self.assertEqual(reach(plan), asked, text_of(plan))

    def test_nothing_hangs_on_other_cells(self):
        dice = random.Random(87)
        for plan in self.plans:
            steps = set(reach(plan))
            cells = set(some_cells(dice, 12, 4))
            other = {cell for cell in cells if cell in steps} | (set(some_cells(dice, 12, 4)) - steps)
            told = [plan.done((tuple(sorted(some)), False)) for some in (cells, other)]
            self.assertEqual(((0, 0) in told[0][0]) != told[0][1], ((0, 0) in told[1][0]) != told[1][1])

    def test_just_2000_and_more(self):
        just = Eat(spread(10, 1), Eat(spread(10, 10), Grow(spread(10, 100), Eat(spread(2, 5000), Keep()))))
        self.assertEqual(len(reach(just)), 2000)
        for big in (Either(just, Move((1, 1), Keep())), Both(Move((1, 1), Keep()), just)):
            self.assertEqual(len(reach_in(big)), 2001)
            self.assertRaises(TooMany, reach, big)
        self.assertRaises(TooMany, reach, Grow(spread(2, 100000), just))
        self.assertRaises(TooMany, reach, Eat(spread(2, 100000), just))
        self.assertEqual(len(reach(Move((5, 5), just))), 2000)
        self.assertRaises(TooMany, reach, Move((5, 5), Either(just, Move((1, 1), Keep()))))
        self.assertRaises(TooMany, reach, Both(Nothing(), Grow(spread(2, 100000), just)))

    def test_of_about(self):
        for plan in self.plans:
            self.assertEqual(reach(plan.about()), reach(plan))

    def test_of_after(self):
        few = [plan for plan in self.plans if len(plans_in(plan)) <= 6]
        for one, other in itertools.product(few[::4], few[::3]):
            self.assertEqual(reach(after(one, other)), sums(reach(one), reach(other)))


class Words(Asked):
    """5.9"""

    def test_words(self):
        for plan in self.plans:
            told = plan.words()
            self.assertIs(type(told), list)
            self.assertTrue(all(type(word) is str for word in told))
            self.assertEqual(told, text_of(plan).split(" "))

    def test_numbers(self):
        plan = Move((-1000000, 0), Eat(((-10, -1), (0, 0), (0, 1000000)), Keep()))
        self.assertEqual(plan.words(), "move -1000000 0 eat 3 -10 -1 0 0 0 1000000 keep".split(" "))


class Handed(Asked):
    """0.2"""

    def test_lists_are_ones_own(self):
        for plan in self.plans:
            check_own(self, plan.parts_in)
            check_own(self, plan.words)
            self.assertEqual(plan.words(), text_of(plan).split(" "))

    def test_what_is_handed_in_stays(self):
        for plan in self.plans:
            kept = text_of(plan)
            shapes = copy.deepcopy(self.shapes)
            for shape in self.shapes:
                plan.done(shape)
            opening(PAIR, plan)
            closing(PAIR, plan)
            after(plan, Both(Keep(), Keep()))
            after(Eat(PAIR, Keep()), plan)
            reach(plan)
            self.assertEqual(self.shapes, shapes)
            self.assertEqual(text_of(plan), kept)

    def test_one_may_stand_in_several_plans(self):
        inner = Eat(PAIR, Keep())
        plan = Both(Move((0, 1), inner), Either(inner, Grow(PAIR, inner)))
        shape = (square(3, 4), False)
        self.assertEqual(many_in(plan), 10)
        for cell in asked_cells(plan, shape):
            self.assertEqual(cell in plan.done(shape)[0], comes_out(plan, shape, cell))


if __name__ == "__main__":
    unittest.main()
