import copy
import itertools
import random
import unittest

from edgemoss.errors import TooMany
from edgemoss.least import bars, crossed, least_pieces
from edgemoss.plans import Both, Eat, Either, Everything, Grow, Keep, Move, Nothing, closing, opening
from plain import (
    CORNER, PAIR, against_nought, bars_in, check_own, comes_out, each_kind, is_cell, is_rising, kind_of, least_in, lies_clear,
    lies_whole, narrow_plans, plans_in, plus, reach_in, sets_within, singles, some_cells, some_plans, some_shapes,
    spread, square, text_of, window,
)


def least_sets(sets):
    """Those that have no other one of them within them; an OverflowError where there are more than 100."""
    least = []
    for some in sorted(set(map(frozenset, sets)), key=len):
        if not any(other <= some for other in least):
            least.append(some)
        if len(least) > 100:
            raise OverflowError
    return set(least)


def by_sets(plan):
    """The least pieces by sets of steps, put together of those of the plans within, up to 100."""
    kind = kind_of(plan)
    if kind == "Keep":
        return {frozenset([(0, 0)])}
    if kind in ("Nothing", "Everything"):
        return {frozenset()} if kind == "Everything" else set()
    if kind in ("Both", "Either"):
        sides = [by_sets(plan.one), by_sets(plan.other)]
    else:
        inner = by_sets(plan.plan)
        steps = against_nought([plan.step]) if kind == "Move" else plan.piece
        if kind == "Grow":
            steps = against_nought(steps)
        sides = [[frozenset(plus(cell, step) for cell in some) for some in inner] for step in steps]
    if kind in ("Grow", "Either"):
        return least_sets(some for side in sides for some in side)
    told = {frozenset()}
    for side in sides:
        told = least_sets(one | other for one in told for other in side)
    return told


def is_refused(plan):
    """6.4 word by word."""
    asked = []
    for part in plans_in(plan):
        asked.append(part)
        if kind_of(part) in ("Eat", "Grow"):
            asked += [type(part)(part.piece[:many], part.plan) for many in range(1, len(part.piece))]
    try:
        told = [by_sets(part) for part in asked]
    except OverflowError:
        return True
    return any(len(sets) > 60 or any(len(some) > 400 for some in sets) for sets in told)


class Asked(unittest.TestCase):

    def setUp(self):
        self.plans = narrow_plans(101)

    def check_form(self, told):
        self.assertIs(type(told), list)
        self.assertTrue(is_rising(told))
        for some in told:
            self.assertTrue(type(some) is tuple and is_rising(some) and all(map(is_cell, some)))


class LeastPieces(Asked):
    """6.1"""

    def test_against_the_plain_reckoning(self):
        met = set()
        for plan in self.plans:
            told = least_pieces(plan)
            self.check_form(told)
            self.assertEqual(told, least_in(plan), text_of(plan))
            met.add(len(told))
        self.assertGreater(len(met), 8)

    def test_by_hand(self):
        self.assertEqual(least_pieces(Keep()), [((0, 0),)])
        self.assertEqual(least_pieces(Nothing()), [])
        self.assertEqual(least_pieces(Everything()), [()])
        self.assertEqual(least_pieces(Move((2, -3), Keep())), [((-2, 3),)])
        self.assertEqual(least_pieces(Eat(CORNER, Keep())), [CORNER])
        self.assertEqual(least_pieces(Grow(CORNER, Keep())), [((-3, 1),), ((0, 0),), ((1, -2),)])
        self.assertEqual(least_pieces(Both(Keep(), Move((0, 1), Keep()))), [((0, -1), (0, 0))])
        self.assertEqual(least_pieces(Either(Keep(), Move((0, 1), Keep()))), [((0, -1),), ((0, 0),)])
        self.assertEqual(least_pieces(opening(PAIR, Keep())), [((0, -1), (0, 0)), ((0, 0), (0, 1))])
        self.assertEqual(least_pieces(closing(PAIR, Keep())), [((0, -1), (0, 1)), ((0, 0),)])

    def test_those_within_others_are_no_least_ones(self):
        wide = Eat(((0, 0), (0, 1), (0, 2)), Keep())
        self.assertEqual(least_pieces(Either(wide, Eat(PAIR, Keep()))), [PAIR])
        self.assertEqual(least_pieces(Either(Eat(PAIR, Keep()), wide)), [PAIR])
        self.assertEqual(least_pieces(Both(wide, Either(Keep(), Eat(PAIR, Keep())))), [wide.piece])
        self.assertEqual(least_pieces(Either(Keep(), Keep())), [((0, 0),)])
        self.assertEqual(least_pieces(Either(Keep(), Everything())), [()])

    def test_plans_that_make_the_empty_shape_or_the_full_one(self):
        keep = Keep()
        for plan in (Both(Nothing(), keep), Eat(PAIR, Nothing()), Grow(PAIR, Both(keep, Nothing())), Nothing()):
            self.assertEqual(least_pieces(plan), [])
            self.assertEqual(bars(plan), [()])
        for plan in (Either(keep, Everything()), Grow(PAIR, Everything()), Eat(PAIR, Either(Everything(), keep))):
            self.assertEqual(least_pieces(plan), [()])
            self.assertEqual(bars(plan), [])

    def test_of_each_shape_that_has_the_steps(self):
        """By all shapes of the reach's steps and one more, with the rest and without it."""
        for plan in narrow_plans(103, most=4)[::4]:
            steps = reach_in(plan) + ((50, 50),)
            shapes = [(some, rest) for some in sets_within(steps) for rest in (False, True)]
            made = {shape: comes_out(plan, shape, (0, 0)) for shape in shapes}
            suffices, hinders = {}, {}
            for some in sets_within(steps):
                suffices[some] = all(made[shape] for shape in shapes if lies_whole(shape, some, (0, 0)))
                hinders[some] = not any(made[shape] for shape in shapes if lies_clear(shape, some, (0, 0)))
            for ask, sets in ((least_pieces, suffices), (bars, hinders)):
                asked = least_sets(some for some in sets if sets[some])
                self.assertEqual(ask(plan), sorted(tuple(sorted(some)) for some in asked), text_of(plan))

    def test_the_reckoning_by_sets_is_the_same(self):
        for plan in self.plans:
            self.assertEqual([tuple(sorted(some)) for some in sorted(map(sorted, by_sets(plan)))], least_pieces(plan))


class Bars(Asked):
    """6.2, 6.3"""

    def test_against_the_plain_reckoning(self):
        for plan in self.plans:
            told = bars(plan)
            self.check_form(told)
            self.assertEqual(told, bars_in(plan), text_of(plan))

    def test_by_hand(self):
        self.assertEqual(bars(Eat(PAIR, Keep())), [((0, 0),), ((0, 1),)])
        self.assertEqual(bars(Grow(CORNER, Keep())), [((-3, 1), (0, 0), (1, -2))])
        self.assertEqual(bars(opening(PAIR, Keep())), [((0, -1), (0, 1)), ((0, 0),)])

    def test_of_the_plan_turned_about(self):
        for plan in self.plans:
            self.assertEqual(bars(plan), least_pieces(plan.about()))
            self.assertEqual(bars(plan.about()), least_pieces(plan))

    def test_each_meets_each_least_piece(self):
        for plan in self.plans:
            for piece, bar in itertools.product(least_pieces(plan), bars(plan)):
                self.assertTrue(set(piece) & set(bar))

    def test_each_cell_is_told_by_one_of_them(self):
        shapes = some_shapes(104, 7, most=9, span=2) + [(square(3, 3), True)]
        for plan, shape in itertools.product(self.plans[::3], shapes):
            pieces, hinders = least_pieces(plan), bars(plan)
            for cell in window([shape], 2)[::2]:
                comes = comes_out(plan, shape, cell)
                self.assertEqual(any(lies_whole(shape, piece, cell) for piece in pieces), comes)
                self.assertEqual(any(lies_clear(shape, bar, cell) for bar in hinders), not comes)


class TooManyOfThem(Asked):
    """6.4"""

    def check_refused(self, plan):
        self.assertRaises(TooMany, least_pieces, plan)
        self.assertRaises(TooMany, bars, plan.about())

    def test_just_60_and_61(self):
        self.assertEqual(len(least_pieces(singles(60))), 60)
        self.assertEqual(len(bars(singles(60).about())), 60)
        self.assertEqual(len(by_sets(singles(61))), 61)
        self.check_refused(singles(61))
        # The other way round there is one set alone.
        self.assertEqual([len(some) for some in bars(singles(61))], [61])
        self.assertEqual([len(some) for some in least_pieces(singles(61).about())], [61])

    def test_just_60_by_eating_and_meeting(self):
        six = Grow(spread(6, 1), Keep())
        ten = Grow(spread(10, 1), Move((5, 5), Keep()))
        self.assertEqual(len(least_pieces(Both(six, ten))), 60)
        self.check_refused(Both(six, Either(ten, Move((9, 9), Keep()))))
        seven = Grow(spread(7, 1), Keep())
        eight = Grow(spread(8, 1), Keep())
        far = ((0, 0), (50, 0))
        self.assertEqual(len(least_pieces(Eat(far, seven))), 49)
        self.check_refused(Eat(far, eight))

    def test_more_than_400_steps(self):
        wide = Eat(spread(10, 1), Eat(spread(10, 10), Eat(spread(4, 100), Keep())))
        self.assertEqual([len(some) for some in least_pieces(wide)], [400])
        self.assertEqual([len(some) for some in bars(wide.about())], [400])
        self.check_refused(Both(wide, Move((7, 7), Keep())))
        self.check_refused(Either(Keep(), Eat(spread(10, 1), Eat(spread(10, 10), Eat(spread(5, 100), Keep())))))
        # One with fewer steps within it makes it no least piece, but the plan within is refused all the same.
        self.check_refused(Either(Move((0, -1), Keep()), Both(wide, Move((7, 7), Keep()))))
        self.assertEqual(least_pieces(Either(Move((0, -1), Keep()), wide)), [((0, 1),)])

    def test_a_plan_within(self):
        for big in (singles(61), Both(Grow(spread(8, 1), Keep()), Move((5, 5), Grow(spread(8, 1), Keep())))):
            for plan in [
                Both(Nothing(), big), Both(big, Nothing()), Either(Everything(), big), Either(big, Everything()),
                Move((0, 0), Both(Nothing(), big)), Eat(PAIR, Both(Nothing(), big)), Grow(PAIR, Both(big, Nothing())),
                Both(Keep(), Either(Keep(), Eat(PAIR, Either(Everything(), big)))),
            ]:
                self.check_refused(plan)

    def test_a_beginning_of_a_growing_piece(self):
        """Its third and fourth step make all wide pieces of the plan within have a single step within them."""
        rows = ((0, 0), (1, 0), (2, 0), (3, 0))
        for many, refused in ((29, False), (30, True), (33, True)):
            wide = Both(Both(Move((2, 0), Keep()), Move((-2, 0), Keep())), Move((0, 500), singles(many)))
            plan = Either(Keep(), wide)
            self.assertEqual(len(least_pieces(plan)), many + 1)
            self.assertEqual(len(by_sets(Grow(rows[:2], plan))), 2 * many + 2)
            self.assertEqual(len(by_sets(Grow(rows, plan))), 4)
            if refused:
                self.check_refused(Grow(rows, plan))
            else:
                self.assertEqual(least_pieces(Grow(rows, plan)), [((-k, 0),) for k in (3, 2, 1, 0)])

    def test_a_beginning_of_an_eating_piece(self):
        rows = ((0, 0), (1, 0), (2, 0), (3, 0))
        for many, refused in ((5, False), (6, True)):
            plan = Both(Keep(), Grow(((-2, 0),) + tuple((0, 100 + k) for k in range(many)) + ((2, 0),), Keep()))
            self.assertEqual(len(least_pieces(plan)), many + 2)
            self.assertEqual(len(by_sets(Eat(rows[:2], plan))), (many + 2) ** 2)
            self.assertEqual(by_sets(Eat(rows, plan)), {frozenset(rows)})
            if refused:
                self.check_refused(Eat(rows, plan))
            else:
                self.assertEqual(least_pieces(Eat(rows, plan)), [rows])

    def test_just_where_it_is_told(self):
        met = {True: 0, False: 0}
        plans = some_plans(105, 250, many=9, deep=7, most=5, span=2) + some_plans(106, 100, many=6, most=12, span=4)
        for plan in plans:
            refused = is_refused(plan)
            met[refused] += 1
            if refused:
                self.check_refused(plan)
            else:
                told = [tuple(sorted(some)) for some in by_sets(plan)]
                self.assertEqual(least_pieces(plan), sorted(told))
        self.assertGreater(min(met.values()), 30)


def plain_crossed(sets):
    """6.6 word by word."""
    least = []
    for some in sets_within(step for steps in sets for step in steps):
        crosses = all(set(some) & set(steps) for steps in sets)
        if crosses and not any(set(one) <= set(some) for one in least):
            least.append(some)
    return sorted(least)


class Crossed(Asked):
    """6.6"""

    def test_against_the_plain_reckoning(self):
        dice = random.Random(107)
        for _ in range(400):
            sets = [some_cells(dice, dice.randint(1, 4), 1) for _ in range(dice.randint(0, 6))]
            told = crossed(sets)
            self.check_form(told)
            self.assertEqual(told, plain_crossed(sets))
            self.assertEqual(crossed(tuple(sets)), told)

    def test_of_no_sets(self):
        self.assertEqual(crossed([]), [()])
        self.assertEqual(crossed(()), [()])

    def test_of_sets_with_the_empty_one_among_them(self):
        self.assertEqual(crossed([()]), [])
        self.assertEqual(crossed([PAIR, (), CORNER]), [])
        self.assertEqual(crossed([(), PAIR]), [])
        self.assertEqual(crossed([PAIR, ()]), [])

    def test_of_like_sets_and_of_sets_within_one_another(self):
        self.assertEqual(crossed([CORNER]), [(step,) for step in CORNER])
        self.assertEqual(crossed([CORNER] * 60), [(step,) for step in CORNER])
        self.assertEqual(crossed([CORNER, CORNER[1:], CORNER[2:]]), [(CORNER[2],)])
        self.assertEqual(crossed([CORNER[2:], CORNER, CORNER[1:]]), [(CORNER[2],)])
        self.assertEqual(crossed([((0, 0), (0, 1)), ((0, 1), (0, 2))]), [((0, 0), (0, 2)), ((0, 1),)])

    def test_many_sets(self):
        sets = [((0, k), (0, k + 1)) for k in range(0, 2, 2)] + [((k, 7),) for k in range(59)]
        self.assertEqual(crossed(sets), [
            tuple(sorted(((0, 7), (0, k)) + tuple((row, 7) for row in range(1, 59)))) for k in (0, 1)
        ])

    def test_bars_are_what_crosses_the_least_pieces(self):
        for plan in self.plans:
            self.assertEqual(crossed(least_pieces(plan)), bars(plan))
            self.assertEqual(crossed(bars(plan)), least_pieces(plan))

    def test_just_60_and_61(self):
        six, ten = spread(6, 1), tuple((5, k) for k in range(10))
        one = ((-9, -9),)
        self.assertEqual(len(crossed([six, ten])), 60)
        self.assertEqual(len(plain_crossed([one + six[:2], one + ten[:3]])), 7)
        self.assertRaises(TooMany, crossed, [one + six, one + ten])
        self.assertRaises(TooMany, crossed, (ten, six, ((8, 8), (8, 9))))

    def test_refused_by_a_beginning_of_the_row(self):
        one, other = spread(8, 1), tuple((5, k) for k in range(8))
        self.assertRaises(TooMany, crossed, [one, other])
        self.assertRaises(TooMany, crossed, [one, other, ()])
        self.assertRaises(TooMany, crossed, [one, other, one[:1], other[:1]])
        self.assertEqual(crossed([one[:1], other[:1], one, other]), [(one[0], other[0])])
        self.assertEqual(crossed([one, one[:1], other, other[:1]]), [(one[0], other[0])])
        self.assertEqual(crossed([(), one, other]), [])
        self.assertEqual(crossed([one, (), other]), [])

    def test_just_where_it_is_told(self):
        dice = random.Random(108)
        met = {True: 0, False: 0}
        for _ in range(150):
            sets = [some_cells(dice, dice.randint(2, 7), 2) for _ in range(dice.randint(1, 4))]
            if len({step for steps in sets for step in steps}) > 12:
                continue
            refused = any(len(plain_crossed(sets[:many])) > 60 for many in range(1, len(sets) + 1))
            met[refused] += 1
            if refused:
                self.assertRaises(TooMany, crossed, sets)
            else:
                self.assertEqual(crossed(sets), plain_crossed(sets))
        self.assertGreater(met[False], 50)


class Handed(Asked):
    """0.2"""

    def test_lists_are_ones_own_and_what_is_handed_in_stays(self):
        sets = [CORNER, PAIR, ((0, 0),)]
        kept = copy.deepcopy(sets)
        plans = each_kind()
        texts = [text_of(plan) for plan in plans]
        asks = [lambda: crossed(sets), lambda: crossed([]), lambda: crossed([()])]
        asks += [lambda plan=plan: least_pieces(plan) for plan in plans]
        asks += [lambda plan=plan: bars(plan) for plan in plans]
        for ask in asks:
            check_own(self, ask)
        self.assertEqual(sets, kept)
        self.assertEqual([text_of(plan) for plan in plans], texts)
        told = crossed(sets)
        sets.clear()
        self.assertEqual(told, crossed(kept))


if __name__ == "__main__":
    unittest.main()
