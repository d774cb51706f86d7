import copy
import random
import unittest

from edgemoss.compare import again, alike, inside
from edgemoss.errors import TooMany
from edgemoss.plans import Both, Eat, Either, Everything, Grow, Keep, Move, Nothing, after, closing, opening
from plain import (
    PAIR, comes_out, each_kind, least_in, narrow_plans, reach_in, sets_within, singles, some_pieces, spread, text_of,
)

MIDDLE = (0, 0)
EMPTY = ((), False)
ALL = ((), True)


def alone(pieces, others):
    """Those within which is none of the others."""
    return [piece for piece in pieces if not any(set(other) <= set(piece) for other in others)]


def plain_inside(one, other):
    """7.1 word by word, by the tests' own least pieces."""
    pieces, others = least_in(one), least_in(other)
    lacking = alone(pieces, others)
    if lacking:
        fewest = min(map(len, lacking))
        return ("parted", sorted(piece for piece in lacking if len(piece) == fewest)[0])
    return ("inside", [(piece, [some for some in others if set(some) <= set(piece)][0]) for piece in pieces])


def plain_alike(one, other):
    """7.2 word by word."""
    ways = [alone(least_in(one), least_in(other)), alone(least_in(other), least_in(one))]
    if not ways[0] + ways[1]:
        return ("alike",)
    fewest = min(map(len, ways[0] + ways[1]))
    for way in (0, 1):
        told = sorted(piece for piece in ways[way] if len(piece) == fewest)
        if told:
            return ("parted", told[0], way)


def middles(one, other, cells):
    """What the two make of the finite shape of these cells, at the middle."""
    return [comes_out(plan, (cells, False), MIDDLE) for plan in (one, other)]


class Asked(unittest.TestCase):

    def setUp(self):
        dice = random.Random(121)
        plans = narrow_plans(122, most=6)
        self.pairs = [(dice.choice(plans), dice.choice(plans)) for _ in range(250)]
        for plan in dice.sample(plans, 60):
            more = dice.choice([plan for plan in plans if len(reach_in(plan)) < 3])
            self.pairs += [(Both(plan, more), plan), (plan, Either(more, plan)), (plan, plan)]
            self.pairs.append((Either(plan, more), plan))
        self.pairs = [pair for pair in self.pairs if len(set(reach_in(pair[0])) | set(reach_in(pair[1]))) <= 9]


class Inside(Asked):
    """7.1"""

    def test_against_the_plain_reckoning(self):
        met = {"inside": 0, "parted": 0}
        for one, other in self.pairs:
            told = inside(one, other)
            self.assertIs(type(told), tuple)
            self.assertEqual(told, plain_inside(one, other))
            met[told[0]] += 1
            if told[0] == "inside":
                self.assertIs(type(told[1]), list)
                self.assertTrue(all(type(pair) is tuple and len(pair) == 2 for pair in told[1]))
        self.assertGreater(min(met.values()), 50)

    def test_by_hand(self):
        keep = Keep()
        edge = Eat(PAIR, keep)
        self.assertEqual(inside(edge, keep), ("inside", [(PAIR, (MIDDLE,))]))
        self.assertEqual(inside(keep, edge), ("parted", (MIDDLE,)))
        self.assertEqual(inside(Nothing(), edge), ("inside", []))
        self.assertEqual(inside(edge, Everything()), ("inside", [(PAIR, ())]))
        self.assertEqual(inside(Everything(), edge), ("parted", ()))
        self.assertEqual(inside(edge, Nothing()), ("parted", PAIR))
        wide = Eat(((0, 0), (0, 1), (0, 2)), keep)
        self.assertEqual(
            inside(wide, Grow(((0, -2), (0, -1)), keep)), ("inside", [(((0, 0), (0, 1), (0, 2)), ((0, 1),))])
        )
        opened = opening(PAIR, keep)
        self.assertEqual(inside(opened, keep), ("inside", [(((0, -1), (0, 0)), (MIDDLE,)), (PAIR, (MIDDLE,))]))

    def test_the_fewest_steps_then_the_least(self):
        keep = Keep()
        few = Either(Eat(((0, 0), (9, 9)), keep), Eat(((-5, 0), (0, 0), (0, 1)), keep))
        self.assertEqual(inside(few, Nothing()), ("parted", ((0, 0), (9, 9))))
        self.assertEqual(inside(Either(few, Move((7, 7), keep)), Nothing()), ("parted", ((-7, -7),)))
        self.assertEqual(inside(Either(Move((-3, 0), keep), keep), Nothing()), ("parted", ((0, 0),)))
        self.assertEqual(inside(Either(keep, Move((3, 0), keep)), Nothing()), ("parted", ((-3, 0),)))
        self.assertEqual(inside(Either(few, Move((7, 7), keep)), Move((7, 7), keep)), ("parted", ((0, 0), (9, 9))))

    def test_inside_is_so_of_every_shape(self):
        for one, other in self.pairs:
            cells = set(reach_in(one)) | set(reach_in(other))
            so = all(not made[0] or made[1] for made in (middles(one, other, some) for some in sets_within(cells)))
            self.assertEqual(inside(one, other)[0] == "inside", so)

    def test_the_shape_of_it_parts_them_and_no_smaller_one(self):
        met = 0
        for one, other in self.pairs:
            told = inside(one, other)
            if told[0] == "inside":
                continue
            met += 1
            shape = (told[1], False)
            self.assertIn(MIDDLE, cells_near(one.done(shape)))
            self.assertNotIn(MIDDLE, cells_near(other.done(shape)))
            for some in sets_within(set(reach_in(one)) | set(reach_in(other))):
                if len(some) >= len(told[1]):
                    break
                made = middles(one, other, some)
                self.assertTrue(not made[0] or made[1])
        self.assertGreater(met, 50)


def cells_near(shape):
    """The middle, if the shape has it."""
    return [MIDDLE] if (MIDDLE in shape[0]) != shape[1] else []


class Alike(Asked):
    """7.2"""

    def test_against_the_plain_reckoning(self):
        met = {}
        for one, other in self.pairs:
            told = alike(one, other)
            self.assertIs(type(told), tuple)
            self.assertEqual(told, plain_alike(one, other))
            met[told[0], told[-1]] = met.get((told[0], told[-1]), 0) + 1
        self.assertEqual(set(met), {("alike", "alike"), ("parted", 0), ("parted", 1)})
        self.assertGreater(min(met.values()), 20)

    def test_by_hand(self):
        keep = Keep()
        self.assertEqual(alike(keep, Move((0, 0), keep)), ("alike",))
        self.assertEqual(alike(opening(PAIR, keep), opening(((5, 5), (5, 6)), keep)), ("alike",))
        self.assertEqual(alike(Eat(PAIR, keep), keep), ("parted", (MIDDLE,), 1))
        self.assertEqual(alike(keep, Eat(PAIR, keep)), ("parted", (MIDDLE,), 0))
        self.assertEqual(alike(Everything(), keep), ("parted", (), 0))
        self.assertEqual(alike(Nothing(), Everything()), ("parted", (), 1))
        self.assertEqual(alike(Nothing(), Both(keep, Nothing())), ("alike",))

    def test_way_0_ahead_of_way_1(self):
        keep = Keep()
        left, right = Move((0, 5), keep), Move((0, -5), keep)
        self.assertEqual(alike(left, right), ("parted", ((0, -5),), 0))
        self.assertEqual(alike(right, left), ("parted", ((0, 5),), 0))
        # Fewer steps are told ahead of way 0.
        self.assertEqual(alike(Eat(((-9, 0), (-8, 0)), keep), left), ("parted", ((0, -5),), 1))
        self.assertEqual(alike(left, Eat(((-9, 0), (-8, 0)), keep)), ("parted", ((0, -5),), 0))

    def test_one_and_other_exchanged(self):
        for one, other in self.pairs:
            told, back = alike(one, other), alike(other, one)
            self.assertEqual(told[0], back[0])
            if told[0] == "parted":
                self.assertEqual(len(told[1]), len(back[1]))
                if told[1] == back[1]:
                    self.assertEqual({told[2], back[2]}, {0, 1})
                else:
                    self.assertEqual((told[2], back[2]), (0, 0))

    def test_alike_is_so_of_every_shape(self):
        for one, other in self.pairs:
            cells = set(reach_in(one)) | set(reach_in(other))
            so = all(made[0] == made[1] for made in (middles(one, other, some) for some in sets_within(cells)))
            self.assertEqual(alike(one, other)[0] == "alike", so)

    def test_the_shape_of_it_parts_them_and_no_smaller_one(self):
        for one, other in self.pairs:
            told = alike(one, other)
            if told[0] == "alike":
                continue
            made = [cells_near(plan.done((told[1], False))) for plan in (one, other)]
            self.assertEqual(made, [[MIDDLE], []] if told[2] == 0 else [[], [MIDDLE]])
            for some in sets_within(set(reach_in(one)) | set(reach_in(other))):
                if len(some) >= len(told[1]):
                    break
                made = middles(one, other, some)
                self.assertEqual(made[0], made[1])

    def test_turned_about_twice_and_back(self):
        for one, other in self.pairs[::3]:
            self.assertEqual(alike(one, one.about().about()), ("alike",))
            self.assertEqual(alike(one, other)[0], alike(one.about(), other.about())[0])


class Refused(unittest.TestCase):

    def test_as_either_of_them(self):
        for ask in (inside, alike):
            for few in (Keep(), Nothing(), Everything(), singles(60)):
                for big in (singles(61), Both(Nothing(), singles(61)), Either(Everything(), singles(61))):
                    self.assertRaises(TooMany, ask, few, big)
                    self.assertRaises(TooMany, ask, big, few)
            self.assertRaises(TooMany, ask, singles(61), singles(61))
        self.assertEqual(alike(singles(60), singles(60)), ("alike",))
        # Bars refuse nothing here.
        self.assertEqual(alike(singles(61).about(), singles(61).about()), ("alike",))


class Again(Asked):
    """7.6"""

    def test_of_openings_and_closings(self):
        met = 0
        for piece in some_pieces(123, 25, most=3, span=1):
            for ask in (opening, closing):
                plan = ask(piece, Keep())
                self.assertIsNone(again(plan))
                met += len(piece) > 1
        self.assertGreater(met, 20)

    def test_by_hand(self):
        self.assertIsNone(again(Keep()))
        self.assertIsNone(again(Nothing()))
        self.assertIsNone(again(Everything()))
        self.assertEqual(again(Move((0, 1), Keep())), (((0, -1),), 0))
        self.assertEqual(again(Grow(PAIR, Keep())), (((0, -2),), 1))
        self.assertEqual(again(Eat(PAIR, Keep())), (PAIR, 0))
        self.assertIsNone(again(Move((0, 0), Keep())))

    def test_against_the_plain_reckoning(self):
        met = set()
        for plan in narrow_plans(124, most=4):
            try:
                twice = after(plan, plan)
            except TooMany:
                self.assertRaises(TooMany, again, plan)
                continue
            if len(reach_in(twice)) > 9:
                continue
            asked = plain_alike(plan, twice)
            self.assertEqual(again(plan), None if asked == ("alike",) else asked[1:])
            met.add(asked[-1])
        self.assertEqual(met, {"alike", 0, 1})

    def test_it_is_so_of_every_shape(self):
        for plan in each_kind() + [Grow(PAIR, Grow(PAIR, Keep())), closing(PAIR, Move((0, 2), Keep()))]:
            told = again(plan)
            for cells in sets_within([(0, 0), (0, 1), (1, 0), (2, -3)]):
                made = plan.done((cells, False))
                if told is None:
                    self.assertEqual(plan.done(made), made)
            if told is not None:
                made = plan.done((told[0], False))
                sides = [cells_near(made), cells_near(plan.done(made))]
                self.assertEqual(sides, [[MIDDLE], []] if told[1] == 0 else [[], [MIDDLE]])

    def test_refused_as_after(self):
        deep = Keep()
        for _ in range(7):
            deep = Move((0, 0), deep)
        self.assertRaises(TooMany, again, deep)
        self.assertIsNone(again(deep.plan.plan))
        wide = Both(Keep(), Both(Keep(), Both(Keep(), Both(Keep(), Both(Keep(), Keep())))))
        self.assertRaises(TooMany, after, wide, wide)
        self.assertRaises(TooMany, again, wide)

    def test_refused_as_the_least_pieces_of_the_plan(self):
        plan = Both(Nothing(), Eat(((0, 0), (50, 0)), Grow(spread(8, 1), Everything())))
        self.assertIsNone(again(plan))
        plan = Both(Nothing(), Eat(((0, 0), (50, 0)), Grow(spread(8, 1), Keep())))
        after(plan, plan)
        self.assertRaises(TooMany, again, plan)

    def test_refused_as_the_least_pieces_of_it_done_twice(self):
        plan = Grow(tuple((k ** 2, k ** 3) for k in range(12)), Keep())
        self.assertEqual(inside(plan, plan)[0], "inside")
        self.assertRaises(TooMany, again, plan)
        self.assertEqual(again(Grow(spread(12, 1), Keep())), (((0, -22),), 1))


class Handed(Asked):
    """0.2"""

    def test_lists_are_ones_own_and_plans_stay(self):
        one, other = opening(PAIR, Keep()), Grow(PAIR, Keep())
        texts = [text_of(one), text_of(other)]
        told = inside(one, other)
        asked = copy.deepcopy(told)
        told[1].clear()
        self.assertEqual(inside(one, other), asked)
        self.assertIsNot(inside(one, other)[1], inside(one, other)[1])
        for ask in (lambda: alike(one, other), lambda: again(other)):
            self.assertEqual(ask(), ask())
        self.assertEqual([text_of(one), text_of(other)], texts)


if __name__ == "__main__":
    unittest.main()
