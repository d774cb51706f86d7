import copy
import itertools
import random
import unittest

from edgemoss.compare import again
from edgemoss.errors import TooMany
from edgemoss.kinds import adds, closing_by, loses, opening_by
from edgemoss.least import bars, least_pieces
from edgemoss.plans import Both, Eat, Either, Everything, Grow, Keep, Move, Nothing, closing, opening
from plain import (
    CORNER, PAIR, bars_in, check_quick, comes_out, each_kind, holds, is_piece, least_in, lies_clear, lies_whole,
    minus, narrow_plans, reach_in, sets_within, singles, some_pieces, some_shapes, spread, text_of, window,
)

MIDDLE = (0, 0)
TALL = ((0, 0), (1, 0))
LONG = ((0, 0), (0, 1), (0, 2))
ODD = ((-2, 1), (0, 0), (0, 1))


def by_hand_plans():
    """Openings and closings, and plans that are nearly so."""
    keep = Keep()
    two = [opening(PAIR, keep), opening(TALL, keep)]
    shut = [closing(PAIR, keep), closing(TALL, keep)]
    return [
        *two, *shut, Either(*two), Both(*shut), Both(*two), Either(*shut), opening(LONG, keep), closing(LONG, keep),
        Both(opening(PAIR, keep), opening(LONG, keep)), Eat(PAIR, keep), Grow(PAIR, keep),
        Grow(((0, -1), (0, 0)), keep),
        Both(keep, Move((0, 1), keep)), Either(keep, Move((0, 1), keep)), Both(keep, Grow(PAIR, Move((0, 1), keep))),
        Both(keep, Grow(((0, -1), (0, 1)), keep)), Either(keep, Eat(((0, -1), (0, 1)), keep)),
        Both(Either(*two), keep), Either(Both(*shut), keep), opening(PAIR, opening(TALL, keep)), Move((0, 0), keep),
        opening(PAIR, closing(PAIR, keep)), closing(PAIR, opening(PAIR, keep)), opening(((5, 5), (5, 6)), keep),
    ]


def plain_fewest(sets):
    lacking = [some for some in sets if MIDDLE not in some]
    if not lacking:
        return None
    fewest = min(map(len, lacking))
    return sorted(some for some in lacking if len(some) == fewest)[0]


def plain_kept(plan, sets, words):
    """7.4 word by word: the cells kept are told by what the plan makes of the piece, cell by cell."""
    for some in sets:
        if MIDDLE not in some:
            return (words[1], some)
        worn = [cell for cell in some if not comes_out(plan, (some, False), cell)]
        if worn:
            return ("wears", some, worn[0])
    return (words[0], sets)


class Asked(unittest.TestCase):

    def setUp(self):
        self.plans = [plan for plan in by_hand_plans() if len(reach_in(plan)) <= 9] + narrow_plans(131, most=8)


class AddsLoses(Asked):
    """7.3"""

    def test_against_the_plain_reckoning(self):
        met = set()
        for plan in self.plans:
            told = adds(plan), loses(plan)
            self.assertEqual(told, (plain_fewest(least_in(plan)), plain_fewest(bars_in(plan))), text_of(plan))
            for some in told:
                self.assertTrue(some is None or some == () or is_piece(some))
            met.add(tuple(None if some is None else min(len(some), 2) for some in told))
        self.assertTrue({(None, None), (None, 1), (1, None), (1, 1), (None, 0), (0, None), (2, None), (None, 2)} <= met)

    def test_by_hand(self):
        keep = Keep()
        for plan, more, fewer in [
            (keep, None, None), (Nothing(), None, ()), (Everything(), (), None),
            (Move((2, -3), keep), ((-2, 3),), ((-2, 3),)), (Move((0, 0), keep), None, None),
            (Eat(CORNER, keep), None, ((-1, 2),)), (Eat(((0, 1), (0, 2)), keep), ((0, 1), (0, 2)), ((0, 1),)),
            (Grow(CORNER, keep), ((-3, 1),), None), (Both(keep, Move((0, 1), keep)), None, ((0, -1),)),
            (Either(keep, Move((0, 1), keep)), ((0, -1),), None), (opening(PAIR, keep), None, ((0, -1), (0, 1))),
            (closing(PAIR, keep), ((0, -1), (0, 1)), None), (Both(Nothing(), keep), None, ()),
            (Either(keep, Everything()), (), None), (Grow(PAIR, Everything()), (), None),
        ]:
            self.assertEqual((adds(plan), loses(plan)), (more, fewer), text_of(plan))

    def test_the_fewest_steps_then_the_least(self):
        keep = Keep()
        some = Either(Eat(((-9, 0), (-8, 0), (-7, 0)), keep), Eat(((3, 0), (4, 0)), keep))
        self.assertEqual(adds(some), ((3, 0), (4, 0)))
        self.assertEqual(adds(Either(some, Eat(((2, 9), (9, 9)), keep))), ((2, 9), (9, 9)))
        self.assertEqual(adds(Either(keep, some)), ((3, 0), (4, 0)))
        self.assertEqual(adds(Either(some, Either(Move((-1, 0), keep), keep))), ((1, 0),))
        self.assertEqual(loses(some.about()), ((3, 0), (4, 0)))
        self.assertEqual(loses(Both(keep, Either(some, Move((5, 5), keep)).about())), ((-5, -5),))

    def test_what_it_shows(self):
        met = [0, 0]
        for plan in self.plans:
            more, fewer = adds(plan), loses(plan)
            if more is not None:
                met[0] += 1
                self.assertFalse(holds((more, False), MIDDLE))
                self.assertTrue(holds(plan.done((more, False)), MIDDLE))
            if fewer is not None:
                met[1] += 1
                self.assertTrue(holds((fewer, True), MIDDLE))
                self.assertFalse(holds(plan.done((fewer, True)), MIDDLE))
        self.assertGreater(min(met), 50)

    def test_no_smaller_one_shows_it(self):
        """The middle stands for every cell, since a moved shape is made likewise (5.3)."""
        for plan in self.plans:
            more, fewer = adds(plan), loses(plan)
            for some in sets_within(set(reach_in(plan)) | {MIDDLE}):
                if (more is None or len(some) < len(more)) and MIDDLE not in some:
                    self.assertFalse(comes_out(plan, (some, False), MIDDLE))
                if (fewer is None or len(some) < len(fewer)) and MIDDLE not in some:
                    self.assertTrue(comes_out(plan, (some, True), MIDDLE))

    def test_turned_about(self):
        for plan in self.plans:
            self.assertEqual(adds(plan.about()), loses(plan))
            self.assertEqual(loses(plan.about()), adds(plan))

    def test_refused_each_by_its_own_list(self):
        many = singles(61)
        self.assertRaises(TooMany, adds, many)
        self.assertIsNone(loses(many))
        self.assertIsNone(adds(many.about()))
        self.assertRaises(TooMany, loses, many.about())
        self.assertEqual(adds(singles(60)), ((0, -411),))
        self.assertEqual(loses(singles(60).about()), ((0, -411),))
        for plan in (Both(Nothing(), many), Either(Everything(), many), Eat(PAIR, Both(many, Nothing()))):
            self.assertRaises(TooMany, adds, plan)
            self.assertRaises(TooMany, loses, plan.about())
        self.assertEqual(loses(Both(Nothing(), many)), ())


class OpeningClosing(Asked):
    """7.4, 7.5"""

    def test_against_the_plain_reckoning(self):
        met = {}
        for plan in self.plans:
            told, back = opening_by(plan), closing_by(plan)
            self.assertEqual(told, plain_kept(plan, least_in(plan), ("opening", "adds")), text_of(plan))
            self.assertEqual(back, plain_kept(plan.about(), bars_in(plan), ("closing", "loses")), text_of(plan))
            for some in (told, back):
                self.assertIs(type(some), tuple)
                self.assertIs(type(some[1]), list if some[0] in ("opening", "closing") else tuple)
                self.assertEqual(len(some), 3 if some[0] == "wears" else 2)
            for key in (("by", told[0]), ("back", back[0])):
                met[key] = met.get(key, 0) + 1
        self.assertEqual(len(met), 6)
        self.assertGreater(min(met.values()), 15)

    def test_openings_by_hand(self):
        keep = Keep()
        self.assertEqual(opening_by(keep), ("opening", [(MIDDLE,)]))
        self.assertEqual(opening_by(Nothing()), ("opening", []))
        self.assertEqual(opening_by(opening(PAIR, keep)), ("opening", [((0, -1), (0, 0)), PAIR]))
        two = Either(opening(PAIR, keep), opening(TALL, keep))
        self.assertEqual(opening_by(two), ("opening", [((-1, 0), (0, 0)), ((0, -1), (0, 0)), PAIR, TALL]))
        self.assertEqual(opening_by(Everything()), ("adds", ()))
        self.assertEqual(opening_by(Move((2, -3), keep)), ("adds", ((-2, 3),)))
        self.assertEqual(opening_by(Grow(PAIR, keep)), ("adds", ((0, -1),)))
        self.assertEqual(opening_by(closing(PAIR, keep)), ("adds", ((0, -1), (0, 1))))
        self.assertEqual(opening_by(Eat(PAIR, keep)), ("wears", PAIR, (0, 1)))
        self.assertEqual(opening_by(Eat(LONG, keep)), ("wears", LONG, (0, 1)))
        self.assertEqual(opening_by(Eat(((0, -1), (0, 0)), keep)), ("wears", ((0, -1), (0, 0)), (0, -1)))

    def test_closings_by_hand(self):
        keep = Keep()
        self.assertEqual(closing_by(keep), ("closing", [(MIDDLE,)]))
        self.assertEqual(closing_by(Everything()), ("closing", []))
        self.assertEqual(closing_by(closing(PAIR, keep)), ("closing", [((0, -1), (0, 0)), PAIR]))
        two = Both(closing(PAIR, keep), closing(TALL, keep))
        self.assertEqual(closing_by(two), ("closing", [((-1, 0), (0, 0)), ((0, -1), (0, 0)), PAIR, TALL]))
        self.assertEqual(closing_by(Nothing()), ("loses", ()))
        self.assertEqual(closing_by(Move((2, -3), keep)), ("loses", ((-2, 3),)))
        self.assertEqual(closing_by(Eat(PAIR, keep)), ("loses", ((0, 1),)))
        self.assertEqual(closing_by(opening(PAIR, keep)), ("loses", ((0, -1), (0, 1))))
        self.assertEqual(closing_by(Grow(PAIR, keep)), ("wears", ((0, -1), (0, 0)), (0, -1)))

    def test_the_first_of_the_list_is_told(self):
        """Not the one with the fewest steps, and not one that lacks the middle ahead of one that wears."""
        keep = Keep()
        plan = Either(Eat(((-9, 0), (0, 0), (1, 1)), keep), Move((-3, 0), keep))
        self.assertEqual(least_pieces(plan), [((-9, 0), (0, 0), (1, 1)), ((3, 0),)])
        self.assertEqual(opening_by(plan), ("wears", ((-9, 0), (0, 0), (1, 1)), (-9, 0)))
        self.assertEqual(closing_by(plan.about()), ("wears", ((-9, 0), (0, 0), (1, 1)), (-9, 0)))
        plan = Either(Eat(((-9, 0), (1, 1)), keep), Move((-3, 0), keep))
        self.assertEqual(opening_by(plan), ("adds", ((-9, 0), (1, 1))))
        self.assertEqual(adds(plan), ((3, 0),))
        self.assertEqual(closing_by(plan.about()), ("loses", ((-9, 0), (1, 1))))
        plan = Either(opening(ODD, keep), Move((-30, 0), keep))
        self.assertEqual(opening_by(plan), ("adds", ((30, 0),)))
        plan = Either(opening(PAIR, keep), Eat(((0, 0), (7, 7), (7, 8), (9, 9)), keep))
        self.assertEqual(opening_by(plan), ("wears", ((0, 0), (7, 7), (7, 8), (9, 9)), (9, 9)))

    def test_just_where_it_adds_nothing_and_again_is_none(self):
        met = {}
        for plan in self.plans:
            try:
                twice = again(plan)
            except TooMany:
                continue
            told = [opening_by(plan)[0] == "opening", closing_by(plan)[0] == "closing"]
            self.assertEqual(told, [adds(plan) is None and twice is None, loses(plan) is None and twice is None])
            met[tuple(told)] = met.get(tuple(told), 0) + 1
        self.assertEqual(len(met), 4)

    def test_again_of_these_is_none(self):
        """7.6"""
        met = 0
        for piece in some_pieces(132, 20, most=3, span=1):
            self.assertEqual(opening_by(opening(piece, Keep()))[0], "opening")
            self.assertEqual(closing_by(closing(piece, Keep()))[0], "closing")
            for plan in (opening(piece, Keep()), closing(piece, Keep())):
                try:
                    self.assertIsNone(again(plan))
                    met += 1
                except TooMany:
                    pass
        self.assertGreater(met, 20)
        keep = Keep()
        for plan in (Either(opening(PAIR, keep), opening(TALL, keep)), Both(closing(PAIR, keep), closing(TALL, keep))):
            self.assertIsNone(again(plan))

    def test_what_it_makes(self):
        met = 0
        shapes = some_shapes(133, 10, most=12, span=2)
        for plan, shape in itertools.product(self.plans, shapes):
            told, back = opening_by(plan), closing_by(plan)
            cells = window([shape], 1)[::2]
            if told[0] == "opening":
                met += len(told[1]) > 1
                for cell in cells:
                    lies = [
                        some for some in told[1] for step in some
                        if lies_whole(shape, some, minus(cell, step))
                    ]
                    self.assertEqual(bool(lies), comes_out(plan, shape, cell))
            if back[0] == "closing":
                met += len(back[1]) > 1
                for cell in cells:
                    lies = [
                        some for some in back[1] for step in some
                        if lies_clear(shape, some, minus(cell, step))
                    ]
                    self.assertEqual(not lies, comes_out(plan, shape, cell))
        self.assertGreater(met, 50)

    def test_turned_about(self):
        words = {"closing": "opening", "loses": "adds", "wears": "wears"}
        for plan in self.plans:
            told = closing_by(plan)
            self.assertEqual((words[told[0]],) + told[1:], opening_by(plan.about()))


def far_pieces(lengths):
    """Pieces of so many steps each, no difference of two steps in two of them alike."""
    dice = random.Random(134)
    return [tuple(sorted({(dice.randint(-9999, 9999), dice.randint(-9999, 9999)) for _ in range(n)})) for n in lengths]


def either_opening(lengths):
    plans = [opening(piece, Keep()) for piece in far_pieces(lengths)]
    plan = plans[0]
    for other in plans[1:]:
        plan = Either(plan, other)
    return plan


class Refused(unittest.TestCase):

    def test_just_60_and_61(self):
        plan = either_opening([12] * 5)
        told = opening_by(plan)
        self.assertEqual((told[0], len(told[1])), ("opening", 60))
        told = closing_by(plan.about())
        self.assertEqual((told[0], len(told[1])), ("closing", 60))
        more = either_opening([12, 12, 12, 12, 11, 2])
        self.assertRaises(TooMany, opening_by, more)
        self.assertRaises(TooMany, closing_by, more.about())

    def test_by_its_own_list_alone(self):
        plan = either_opening([12] * 5)
        self.assertRaises(TooMany, bars, plan)
        self.assertRaises(TooMany, closing_by, plan)
        self.assertRaises(TooMany, loses, plan)
        self.assertIsNone(adds(plan))
        self.assertRaises(TooMany, opening_by, plan.about())
        self.assertRaises(TooMany, adds, plan.about())
        self.assertIsNone(loses(plan.about()))
        many = singles(61)
        self.assertRaises(TooMany, opening_by, many)
        self.assertRaises(TooMany, closing_by, many.about())
        self.assertEqual(closing_by(many)[0], "wears")
        self.assertEqual(opening_by(many.about())[0], "wears")

    def test_a_plan_within_and_steps(self):
        many = singles(61)
        for plan in (Both(Nothing(), many), Either(Everything(), many), Either(Keep(), Both(Keep(), many))):
            self.assertRaises(TooMany, opening_by, plan)
            self.assertRaises(TooMany, closing_by, plan.about())
        wide = Eat(spread(10, 1), Eat(spread(10, 10), Eat(spread(4, 100), Keep())))
        self.assertEqual(opening_by(wide)[0], "wears")
        self.assertRaises(TooMany, opening_by, Both(wide, Move((7, 7), Keep())))

    def test_done_does_not_decide_it(self):
        keep = Keep()
        row = Eat(spread(10, 1), Eat(spread(10, 10), Eat(spread(3, 100), Move((-500, 0), keep))))
        wide = Both(Both(keep, row), Grow(spread(12, 1000), Move((900, 0), Eat(PAIR, keep))))
        plan = Either(opening(PAIR, keep), wide)
        told = opening_by(plan)
        self.assertEqual((told[0], len(told[1])), ("opening", 14))
        long = max(told[1], key=len)
        self.assertEqual(len(long), 303)
        self.assertRaises(TooMany, plan.done, (long, False))
        back = closing_by(plan.about())
        self.assertEqual(back, ("closing", told[1]))
        self.assertRaises(TooMany, plan.about().done, (long, True))
        lone = opening_by(wide)
        self.assertEqual(lone[0], "wears")
        self.assertRaises(TooMany, wide.done, (lone[1], False))

    def test_many_long_pieces_are_answered_soon(self):
        keep = Keep()
        row = Eat(spread(10, 1), Eat(spread(10, 10), Eat(spread(3, 100), Move((-500, 0), keep))))
        plan = Either(opening(PAIR, keep), Both(keep, Grow(spread(12, 1), Grow(spread(4, 12), row))))
        told = opening_by(plan)
        self.assertEqual((told[0], len(told[1])), ("opening", 50))
        check_quick(self, [
            lambda: opening_by(plan), lambda: closing_by(plan.about()), lambda: adds(plan), lambda: loses(plan.about()),
        ])


class Handed(Asked):
    """0.2"""

    def test_lists_are_ones_own_and_plans_stay(self):
        plans = each_kind() + by_hand_plans()
        texts = [text_of(plan) for plan in plans]
        for plan in plans:
            for ask in (opening_by, closing_by, adds, loses):
                told = ask(plan)
                kept = copy.deepcopy(told)
                if told is not None and told and told[0] in ("opening", "closing"):
                    told[1].append(None)
                    self.assertIsNot(ask(plan)[1], ask(plan)[1])
                self.assertEqual(ask(plan), kept)
        self.assertEqual([text_of(plan) for plan in plans], texts)


if __name__ == "__main__":
    unittest.main()
