import copy
import itertools
import random
import unittest

from edgemoss.answers import answer, answer_right
from edgemoss.errors import TooMany
from edgemoss.plans import Both, Eat, Everything, Grow, Keep, Move, Nothing, closing, opening
from plain import (
    FAR, PAIR, bars_in, comes_out, each_kind, least_in, lies_clear, lies_whole, narrow_plans, plus, singles,
    some_shapes, spread, square, text_of, window,
)

EMPTY = ((), False)
ALL = ((), True)
# One least piece of 61 steps, and so 61 bars.
LONG = singles(61).about()


def plain_answer(plan, shape, cell):
    """6.5 word by word, by the tests' own least pieces and bars."""
    for steps in least_in(plan):
        if lies_whole(shape, steps, cell):
            return ("piece", steps)
    return ("bar", [steps for steps in bars_in(plan) if lies_clear(shape, steps, cell)][0])


class Asked(unittest.TestCase):

    def setUp(self):
        dice = random.Random(111)
        shapes = some_shapes(112, 12, most=14, span=2) + [(square(3, 4), False), (square(2, 3), True)]
        self.cases = []
        for plan in narrow_plans(113, most=7):
            for shape in dice.sample(shapes, 3):
                for cell in dice.sample(window([shape], 2), 3) + [dice.choice(FAR)]:
                    self.cases.append((plan, shape, cell))


class Answer(Asked):
    """6.5"""

    def test_against_the_plain_reckoning(self):
        met = {}
        for plan, shape, cell in self.cases:
            told = answer(plan, shape, cell)
            self.assertTrue(type(told) is tuple and len(told) == 2 and type(told[1]) is tuple)
            self.assertEqual(told, plain_answer(plan, shape, cell), text_of(plan))
            self.assertEqual(told[0] == "piece", comes_out(plan, shape, cell))
            met[told[0], shape[1]] = met.get((told[0], shape[1]), 0) + 1
        self.assertEqual(len(met), 4)
        self.assertGreater(min(met.values()), 50)

    def test_by_hand(self):
        plan = opening(PAIR, Keep())
        shape = (((0, 0), (0, 1), (0, 2), (5, 5)), False)
        self.assertEqual(answer(plan, shape, (0, 0)), ("piece", ((0, 0), (0, 1))))
        self.assertEqual(answer(plan, shape, (0, 1)), ("piece", ((0, -1), (0, 0))))
        self.assertEqual(answer(plan, shape, (5, 5)), ("bar", ((0, -1), (0, 1))))
        self.assertEqual(answer(plan, shape, (0, 3)), ("bar", ((0, 0),)))
        self.assertEqual(answer(plan, EMPTY, (9, 9)), ("bar", ((0, -1), (0, 1))))
        self.assertEqual(answer(Everything(), EMPTY, (1, 1)), ("piece", ()))
        self.assertEqual(answer(Nothing(), ALL, (1, 1)), ("bar", ()))

    def test_refused_as_the_least_pieces_are(self):
        for shape in (EMPTY, ALL):
            self.assertRaises(TooMany, answer, singles(61), shape, (0, 0))
            self.assertRaises(TooMany, answer, Both(Nothing(), singles(61)), shape, (0, 0))

    def test_refused_as_the_bars_are_only_where_no_piece_lies_so(self):
        word, steps = answer(LONG, ALL, (3, 3))
        self.assertEqual((word, len(steps)), ("piece", 61))
        self.assertRaises(TooMany, answer, LONG, EMPTY, (3, 3))
        self.assertRaises(TooMany, answer, LONG, (((3, 3), plus(steps[0], (3, 3))), True), (3, 3))


class AnswerRight(Asked):
    """6.5"""

    def test_told_answers_are_right(self):
        for plan, shape, cell in self.cases:
            self.assertIs(answer_right(plan, shape, cell, answer(plan, shape, cell)), True)

    def test_just_the_least_ones_that_lie_so(self):
        others = 0
        for plan, shape, cell in self.cases[::2]:
            pieces, hinders = least_in(plan), bars_in(plan)
            more = [(), ((0, 0),), ((0, 0), (0, 1)), ((99, 99),)]
            more += [some[1:] for some in pieces + hinders if some] + [some + ((10 ** 30, 0),) for some in pieces]
            told = answer(plan, shape, cell)
            for steps in pieces + hinders + more:
                asked = steps in pieces and lies_whole(shape, steps, cell)
                self.assertIs(answer_right(plan, shape, cell, ("piece", steps)), asked)
                others += asked and ("piece", steps) != told
                asked = steps in hinders and lies_clear(shape, steps, cell)
                self.assertIs(answer_right(plan, shape, cell, ("bar", steps)), asked)
                others += asked and ("bar", steps) != told
        self.assertGreater(others, 100)

    def test_by_hand(self):
        plan = opening(PAIR, Keep())
        shape = (((0, 0), (0, 1), (0, 2), (5, 5)), False)
        for told, asked in [
            (("piece", ((0, -1), (0, 0))), True), (("piece", ((0, 0), (0, 1))), True),
            (("piece", ((0, 1), (0, 0))), False), (("piece", ((0, -1), (0, 0), (0, 1))), False),
            (("piece", ((0, 0),)), False), (("bar", ((0, -1), (0, 0))), False), (("bar", ((0, 0),)), False),
            (("bars", ((0, -1), (0, 0))), False), (("", ((0, 0), (0, 1))), False), (("Piece", PAIR), False),
        ]:
            self.assertIs(answer_right(plan, shape, (0, 1), told), asked, told)
        # One that is a least piece, but does not lie so; and the bars, in another order too.
        for told, asked in [
            (("piece", ((0, 0), (0, 1))), False), (("bar", ((0, -1), (0, 1))), True), (("bar", ((0, 0),)), False),
            (("bar", ((0, 1), (0, -1))), False), (("bar", ((0, -1), (0, 1), (1, 1))), False), (("bar", ()), False),
        ]:
            self.assertIs(answer_right(plan, shape, (5, 5), told), asked, told)

    def test_the_other_word(self):
        for plan, shape, cell in self.cases[::3]:
            word, steps = answer(plan, shape, cell)
            other = {"piece": "bar", "bar": "piece"}[word]
            self.assertIs(answer_right(plan, shape, cell, (other, steps)), False)
            for none in ("", "pieces", "why", "PIECE"):
                self.assertIs(answer_right(plan, shape, cell, (none, steps)), False)

    def test_refused_by_the_word(self):
        many = singles(61)
        for shape in (EMPTY, ALL):
            for steps in ((), ((0, 0),)):
                self.assertRaises(TooMany, answer_right, many, shape, (0, 0), ("piece", steps))
                self.assertIs(answer_right(many, shape, (0, 0), ("bar", steps)), False)
                self.assertIs(answer_right(many, shape, (0, 0), ("none", steps)), False)
                self.assertRaises(TooMany, answer_right, LONG, shape, (0, 0), ("bar", steps))
                self.assertIs(answer_right(LONG, shape, (0, 0), ("piece", steps)), False)
                self.assertIs(answer_right(LONG, shape, (0, 0), ("none", steps)), False)
        steps = answer(LONG, ALL, (0, 0))[1]
        self.assertIs(answer_right(LONG, ALL, (0, 0), ("piece", steps)), True)
        self.assertIs(answer_right(many, EMPTY, (0, 0), ("bar", steps)), True)
        both_ways = Both(many, Move((50, 50), LONG))
        self.assertRaises(TooMany, answer_right, both_ways, EMPTY, (0, 0), ("piece", ()))
        self.assertRaises(TooMany, answer_right, both_ways, EMPTY, (0, 0), ("bar", ()))
        self.assertIs(answer_right(both_ways, EMPTY, (0, 0), ("other", ())), False)


class Handed(Asked):
    """0.2"""

    def test_what_is_handed_in_stays(self):
        shapes = [(square(2, 3), False), (square(2, 3), True)]
        kept = copy.deepcopy(shapes)
        for plan, shape in itertools.product(each_kind(closing(PAIR, Grow(PAIR, Eat(spread(2, 2), Keep())))), shapes):
            text = text_of(plan)
            told = answer(plan, shape, (0, 0))
            self.assertEqual(answer(plan, shape, (0, 0)), told)
            self.assertIs(answer_right(plan, shape, (0, 0), told), True)
            self.assertEqual(text_of(plan), text)
        self.assertEqual(shapes, kept)


if __name__ == "__main__":
    unittest.main()
