import copy
import itertools
import random
import unittest

from edgemoss.growing import opened
from edgemoss.sieves import moved_by, sifts
from edgemoss.shapes import within
from plain import (
    holds, is_cell, lies_whole, minus, plus, some_cells, some_pieces, some_shapes, spread, square, sums,
)

FAR_STEP = 10 ** 6


def plain_sifts(one, other):
    """4.1 word by word."""
    shape = (one, False)
    told = []
    for step in one:
        places = sorted(minus(step, some) for some in other)
        told.append([place for place in places if lies_whole(shape, other, place)])
    lost = [step for step, places in zip(one, told) if not places]
    if lost:
        return ("parted", min(lost))
    return ("within", [places[0] for places in told])


def moved_piece(piece, step):
    return tuple(plus(cell, step) for cell in piece)


def pairs_of_pieces():
    pieces = some_pieces(61, 14, most=5, span=1) + [((0, 0),), ((2, -3),), ((0, 0), (0, 1)), ((0, 0), (1, 0))]
    pieces = pieces + [square(2, 2), square(3, 4), square(3, 3), spread(12, 1), spread(12, 7), square(2, 6)]
    pairs = list(itertools.product(pieces, pieces))
    dice = random.Random(62)
    for piece in pieces:
        pairs.append((piece, moved_piece(piece, (dice.randint(-5, 5), dice.randint(-5, 5)))))
    for piece, more in itertools.product(pieces, some_pieces(63, 6, most=3, span=2)):
        if len(sums(piece, more)) <= 12:
            pairs.append((sums(piece, more), piece))
    return pairs


class Sifts(unittest.TestCase):
    """4.1, 4.2"""

    def test_against_the_plain_reckoning(self):
        met = {"within": 0, "parted": 0}
        for one, other in pairs_of_pieces():
            told = sifts(one, other)
            self.assertEqual(told, plain_sifts(one, other))
            met[told[0]] += 1
        self.assertGreater(min(met.values()), 50)

    def test_kinds(self):
        for one, other in pairs_of_pieces():
            told = sifts(one, other)
            self.assertIs(type(told), tuple)
            self.assertEqual(len(told), 2)
            if told[0] == "within":
                self.assertIs(type(told[1]), list)
                self.assertEqual(len(told[1]), len(one))
                self.assertTrue(all(map(is_cell, told[1])))
            else:
                self.assertTrue(is_cell(told[1]) and told[1] in one)

    def test_by_hand(self):
        line = ((0, 0), (0, 1), (0, 2), (0, 3))
        pair = ((0, 0), (0, 1))
        self.assertEqual(sifts(line, pair), ("within", [(0, 0), (0, 0), (0, 1), (0, 2)]))
        self.assertEqual(sifts(pair, line), ("parted", (0, 0)))
        gap = ((0, 0), (0, 1), (0, 4), (1, 0))
        self.assertEqual(sifts(gap, pair), ("parted", (0, 4)))
        self.assertEqual(sifts(((5, 5),), ((7, 0),)), ("within", [(-2, 5)]))
        self.assertEqual(sifts(pair, ((3, 3),)), ("within", [(-3, -3), (-3, -2)]))

    def test_a_piece_and_itself(self):
        for piece in some_pieces(64, 30, most=12, span=2):
            word, places = sifts(piece, piece)
            self.assertEqual(word, "within")
            self.assertEqual(places, [(0, 0)] * len(piece))

    def test_a_piece_and_a_moved_one(self):
        for piece in some_pieces(65, 30, most=12, span=2):
            self.assertEqual(sifts(piece, moved_piece(piece, (4, -9))), ("within", [(-4, 9)] * len(piece)))

    def test_far_steps(self):
        one = ((-FAR_STEP, FAR_STEP), (FAR_STEP, -FAR_STEP))
        self.assertEqual(sifts(one, one), ("within", [(0, 0), (0, 0)]))
        places = [(-2 * FAR_STEP, 2 * FAR_STEP), (0, 0)]
        self.assertEqual(sifts(one, ((FAR_STEP, -FAR_STEP),)), ("within", places))

    def test_within_is_so_of_every_shape(self):
        shapes = some_shapes(66, 14, most=20, span=2) + [(square(4, 5), False), (square(2, 3), True)]
        asked = 0
        for one, other in pairs_of_pieces()[::3]:
            if sifts(one, other)[0] == "parted":
                continue
            for shape in shapes + [(one, False), (other, False), (one, True)]:
                self.assertTrue(within(opened(shape, one), opened(shape, other)))
                self.assertEqual(opened(opened(shape, one), other), opened(shape, one))
                self.assertEqual(opened(opened(shape, other), one), opened(shape, one))
                asked += opened(shape, one) != opened(shape, other)
        self.assertGreater(asked, 50)

    def test_parted_by_the_shape_of_one(self):
        for one, other in pairs_of_pieces():
            told = sifts(one, other)
            if told[0] == "parted":
                self.assertEqual(opened((one, False), one), (one, False))
                left = opened((one, False), other)
                self.assertFalse(holds(left, told[1]))
                self.assertTrue(all(holds(left, step) for step in one if step < told[1]))

    def test_lists_are_ones_own_and_pieces_stay(self):
        one, other = square(3, 4), square(2, 2)
        kept = copy.deepcopy((one, other))
        told = sifts(one, other)
        asked = copy.deepcopy(told)
        told[1].clear()
        self.assertEqual(sifts(one, other), asked)
        self.assertEqual((one, other), kept)
        self.assertIsNot(sifts(one, other)[1], sifts(one, other)[1])


class MovedBy(unittest.TestCase):
    """4.2"""

    def test_moved_pieces(self):
        dice = random.Random(67)
        for piece in some_pieces(68, 60, most=12, span=3):
            step = (dice.randint(-9, 9), dice.randint(-9, 9))
            self.assertEqual(moved_by(piece, moved_piece(piece, step)), step)
            self.assertEqual(moved_by(moved_piece(piece, step), piece), (-step[0], -step[1]))
            self.assertEqual(moved_by(piece, piece), (0, 0))

    def test_other_pieces(self):
        self.assertIsNone(moved_by(((0, 0), (0, 1)), ((0, 0), (1, 0))))
        self.assertIsNone(moved_by(((0, 0), (0, 1), (0, 2)), ((0, 0), (0, 1), (0, 3))))
        self.assertIsNone(moved_by(((0, 0), (0, 1), (0, 3)), ((0, 0), (0, 2), (0, 3))))

    def test_pieces_of_unlike_counts(self):
        self.assertIsNone(moved_by(((0, 0), (0, 1)), ((0, 0),)))
        self.assertIsNone(moved_by(((0, 0),), ((0, 0), (0, 1))))
        self.assertIsNone(moved_by(square(2, 2), square(2, 3)))

    def test_far_steps(self):
        one, other = ((-FAR_STEP, -FAR_STEP),), ((FAR_STEP, FAR_STEP),)
        self.assertEqual(moved_by(one, other), (2 * FAR_STEP, 2 * FAR_STEP))

    def test_against_the_plain_reckoning(self):
        met = 0
        for one, other in pairs_of_pieces():
            steps = [minus(b, a) for a in one for b in other]
            asked = [step for step in steps if moved_piece(one, step) == other]
            self.assertEqual(moved_by(one, other), asked[0] if asked else None)
            met += bool(asked)
        self.assertGreater(met, 20)

    def test_just_these_sift_both_ways(self):
        dice = random.Random(69)
        pairs = pairs_of_pieces() + [(some_cells(dice, 3, 1), some_cells(dice, 3, 1)) for _ in range(300)]
        for one, other in pairs:
            like = sifts(one, other)[0] == sifts(other, one)[0] == "within"
            self.assertEqual(like, moved_by(one, other) is not None)


if __name__ == "__main__":
    unittest.main()
