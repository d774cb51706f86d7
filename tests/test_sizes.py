import copy
import itertools
import unittest

from edgemoss.errors import Endless, NoCell, TooMany
from edgemoss.growing import opened
from edgemoss.shapes import within
from edgemoss.sizes import band, counts, levels, size_of
from plain import (
    FAR, check_own, holds, in_opened, is_rising, is_shape, some_pieces, some_shapes, spread, square, sums, window,
)

# All sums of three steps of it are unlike: taken three times it has 364 steps, taken four times far too many.
WILD = tuple((k ** 2, k ** 3) for k in range(12))


def taken(piece, many):
    told = ((0, 0),)
    for _ in range(many):
        told = sums(told, piece)
    return told


def in_level(shape, piece, many, cell):
    """4.3 word by word."""
    return holds(shape, cell) if many == 0 else in_opened(shape, taken(piece, many), cell)


def asked_shapes():
    shapes = some_shapes(71, 10, most=24, span=2) + [(square(5, 7), False), (square(3, 3), True)]
    return shapes + [(spread(9, 1), False), (square(2, 9), False), (((0, 0), (0, 3), (4, 1)), True)]


def asked_pieces():
    return some_pieces(72, 5, most=3, span=1) + [((0, 0),), ((2, 1),), ((0, 0), (0, 1)), square(2, 2)]


def in_a_row(*columns):
    return tuple((0, column) for column in columns)


# Pieces that, taken so many times, have just 400 steps and just one more.
JUST = {
    4: in_a_row(0, 1, 2, 13, 17, 29, 55, 84, 95, 102, 103, 105),
    5: in_a_row(0, 1, 6, 18, 35, 36, 47, 53, 55, 79, 80, 85),
    6: in_a_row(0, 1, 2, 7, 27, 40, 42, 49, 59, 65, 71),
}
ONE_MORE = {
    4: in_a_row(0, 1, 4, 6, 12, 33, 53, 82, 84, 99, 104, 105),
    6: in_a_row(0, 1, 9, 10, 19, 39, 40, 50, 61, 65, 71),
}


class Levels(unittest.TestCase):
    """4.3"""

    def test_against_the_plain_reckoning(self):
        for shape, piece in itertools.product(asked_shapes(), asked_pieces()):
            told = levels(shape, piece, 3)
            self.assertIs(type(told), list)
            self.assertEqual(len(told), 3)
            for many, level in enumerate(told, start=1):
                self.assertTrue(is_shape(level))
                self.assertEqual(level[1], shape[1])
                for cell in window([shape, level], 1):
                    self.assertEqual(holds(level, cell), in_level(shape, piece, many, cell))

    def test_from_1_to_most(self):
        shape, piece = (square(5, 7), False), ((0, 0), (0, 1))
        for most in range(1, 7):
            told = levels(shape, piece, most)
            self.assertEqual(told, [opened(shape, taken(piece, many)) for many in range(1, most + 1)])

    def test_by_hand(self):
        shape = (((0, 0), (0, 1), (0, 2), (5, 5), (7, 7), (7, 8)), False)
        long = (((0, 0), (0, 1), (0, 2)), False)
        pairs = (((0, 0), (0, 1), (0, 2), (7, 7), (7, 8)), False)
        self.assertEqual(levels(shape, ((0, 0), (0, 1)), 4), [pairs, long, ((), False), ((), False)])

    def test_each_within_the_one_ahead_of_it(self):
        for shape, piece in itertools.product(asked_shapes(), asked_pieces()):
            row = [shape] + levels(shape, piece, 4)
            self.assertTrue(all(within(row[k + 1], row[k]) for k in range(4)))

    def test_level_of_a_level(self):
        met = 0
        for shape, piece in itertools.product(asked_shapes(), asked_pieces()):
            row = levels(shape, piece, 3)
            for one, other in itertools.product(range(3), range(3)):
                self.assertEqual(levels(row[one], piece, 3)[other], row[max(one, other)])
            met += len(set(row)) > 1
        self.assertGreater(met, 10)


class SizeOf(unittest.TestCase):
    """4.4"""

    def test_against_the_plain_reckoning(self):
        met = set()
        for shape, piece in itertools.product(asked_shapes(), asked_pieces()[::2]):
            for cell in [cell for cell in window([shape], 1)[::3] + FAR if holds(shape, cell)]:
                asked = max(many for many in range(4) if in_level(shape, piece, many, cell))
                self.assertEqual(size_of(shape, piece, cell, 3), asked)
                met.add((asked, shape[1]))
        self.assertEqual(len(met), 8)

    def test_of_each_size_and_most(self):
        lines = [tuple((3 * many, k) for k in range(many + 1)) for many in range(9)]
        shape = (tuple(cell for line in lines for cell in line), False)
        for many, line in enumerate(lines):
            for most in range(1, 7):
                for cell in line:
                    told = size_of(shape, ((0, 0), (0, 1)), cell, most)
                    self.assertIs(type(told), int)
                    self.assertEqual(told, min(many, most))

    def test_a_piece_of_one_step_takes_nothing(self):
        self.assertEqual(size_of((((4, 4),), False), ((9, 9),), (4, 4), 6), 6)

    def test_a_cell_that_the_shape_lacks(self):
        for shape in asked_shapes():
            for cell in [cell for cell in window([shape], 1) if not holds(shape, cell)]:
                self.assertRaises(NoCell, size_of, shape, square(2, 2), cell, 2)

    def test_a_lacking_cell_ahead_of_too_many(self):
        shape = (((0, 0),), False)
        self.assertRaises(NoCell, size_of, shape, WILD, (0, 1), 6)
        self.assertRaises(NoCell, size_of, (((0, 1),), True), WILD, (0, 1), 4)


class Counts(unittest.TestCase):
    """4.4"""

    def test_against_size_of_each_cell(self):
        for shape, piece in itertools.product(asked_shapes(), asked_pieces()):
            if shape[1]:
                continue
            for most in (1, 2, 4):
                told = counts(shape, piece, most)
                self.assertIs(type(told), list)
                sizes = [size_of(shape, piece, cell, most) for cell in shape[0]]
                self.assertEqual(told, [sizes.count(size) for size in range(most + 1)])

    def test_by_hand(self):
        shape = (((0, 0), (0, 1), (0, 2), (5, 5), (7, 7), (7, 8)), False)
        self.assertEqual(counts(shape, ((0, 0), (0, 1)), 1), [1, 5])
        self.assertEqual(counts(shape, ((0, 0), (0, 1)), 2), [1, 2, 3])
        self.assertEqual(counts(shape, ((0, 0), (0, 1)), 6), [1, 2, 3, 0, 0, 0, 0])
        self.assertEqual(counts(((), False), ((0, 0), (0, 1)), 3), [0, 0, 0, 0])

    def test_endless_ahead_of_too_many(self):
        self.assertRaises(Endless, counts, ((), True), ((0, 0),), 1)
        self.assertRaises(Endless, counts, (((0, 0),), True), WILD, 6)


class Band(unittest.TestCase):
    """4.5"""

    def test_against_the_plain_reckoning(self):
        met = set()
        for shape, piece in itertools.product(asked_shapes(), asked_pieces()[::2]):
            for high in range(4):
                for low in range(high + 1):
                    told = band(shape, piece, low, high)
                    self.assertTrue(type(told) is tuple and is_rising(told))
                    for cell in set(window([shape], 5)) | set(told):
                        asked = in_level(shape, piece, low, cell) and not in_level(shape, piece, high, cell)
                        self.assertEqual(cell in told, asked)
                        if asked:
                            met.add((low, high, shape[1]))
        self.assertEqual(len(met), 12)

    def test_all_low_and_high(self):
        piece = ((0, 0), (0, 1))
        for shape in [(square(2, 5) + ((5, 5), (7, 7), (7, 8)), False), (((0, 0), (0, 3), (0, 7), (0, 12)), True)]:
            row = [shape] + levels(shape, piece, 6)
            for high in range(7):
                for low in range(high + 1):
                    told = band(shape, piece, low, high)
                    cells = window([shape], 8)
                    self.assertEqual(
                        set(told), {cell for cell in cells if holds(row[low], cell) and not holds(row[high], cell)}
                    )

    def test_by_hand(self):
        shape = (((0, 0), (0, 1), (0, 2), (5, 5), (7, 7), (7, 8)), False)
        self.assertEqual(band(shape, ((0, 0), (0, 1)), 0, 1), ((5, 5),))
        self.assertEqual(band(shape, ((0, 0), (0, 1)), 1, 2), ((7, 7), (7, 8)))
        self.assertEqual(band(shape, ((0, 0), (0, 1)), 1, 6), ((0, 0), (0, 1), (0, 2), (7, 7), (7, 8)))
        self.assertEqual(band((((0, 0), (0, 2)), True), ((0, 0), (0, 1)), 0, 1), ((0, 1),))

    def test_low_as_great_as_high(self):
        for shape, piece, low in itertools.product(asked_shapes(), asked_pieces(), range(4)):
            self.assertEqual(band(shape, piece, low, low), ())


class TooManySteps(unittest.TestCase):

    def ask_all(self, piece, most):
        """Whether all that is told of sizes is refused, and by each alike."""
        shape = (((0, 0), (0, 1)), False)
        refused = []
        for ask in [
            lambda: levels(shape, piece, most),
            lambda: levels(((), True), piece, most),
            lambda: size_of(shape, piece, (0, 0), most),
            lambda: counts(shape, piece, most),
            lambda: band(shape, piece, 0, most),
            lambda: band(((), True), piece, most - 1, most),
            lambda: band(shape, piece, most, most),
        ]:
            try:
                ask()
                refused.append(False)
            except TooMany:
                refused.append(True)
        self.assertEqual(len(set(refused)), 1, refused)
        return refused[0]

    def test_just_where_times_is_refused(self):
        pieces = [WILD, WILD[:6], square(3, 4), square(3, 4, 50), spread(12, 1), spread(5, 7)]
        pieces = pieces + [((0, 0), (1, 5), (7, 70), (90, 1)), ((0, 0), (0, 1)), ((5, 5),)]
        met = set()
        for piece, most in itertools.product(pieces, range(1, 7)):
            many = len(taken(piece, most))
            self.assertEqual(self.ask_all(piece, most), many > 400)
            met.add(many > 400)
        self.assertEqual(len(met), 2)

    def test_just_400_and_one_more(self):
        for most, piece in JUST.items():
            self.assertEqual(len(taken(piece, most)), 400)
            self.assertFalse(self.ask_all(piece, most))
        for most, piece in ONE_MORE.items():
            self.assertEqual(len(taken(piece, most)), 401)
            self.assertTrue(self.ask_all(piece, most))

    def test_a_band_up_to_0_is_never_refused(self):
        self.assertEqual(band((((0, 0),), False), WILD, 0, 0), ())
        self.assertEqual(band((((0, 0),), True), WILD, 0, 0), ())

    def test_a_band_is_refused_by_high_alone(self):
        for low in range(4):
            self.assertEqual(band((((0, 0),), False), WILD, low, 3), ((0, 0),) if low == 0 else ())
            self.assertRaises(TooMany, band, (((0, 0),), False), WILD, low, 4)


class Handed(unittest.TestCase):
    """0.2"""

    def test_lists_are_ones_own_and_what_is_handed_in_stays(self):
        shape, piece = (square(4, 5), False), ((0, 0), (0, 1))
        kept = copy.deepcopy((shape, piece))
        check_own(self, lambda: levels(shape, piece, 3))
        check_own(self, lambda: counts(shape, piece, 3))
        size_of(shape, piece, (0, 0), 2)
        band(shape, piece, 0, 2)
        self.assertEqual((shape, piece), kept)


if __name__ == "__main__":
    unittest.main()
