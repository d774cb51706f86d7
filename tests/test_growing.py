import itertools
import unittest

from edgemoss.growing import closed, eaten, grown, opened
from edgemoss.pieces import mirrored, summed, turned_piece
from edgemoss.shapes import both, either, moved, outside, within
from edgemoss.turns import turned
from plain import (
    BOUND, in_closed, in_grown, in_opened, is_shape, lies_whole, minus, plus, some_pieces, some_shapes, square, window,
)

EMPTY = ((), False)
ALL = ((), True)
FOUR = [grown, eaten, opened, closed]
PLAIN = [(grown, in_grown), (eaten, lies_whole), (opened, in_opened), (closed, in_closed)]


def sums(cells, steps):
    return {plus(cell, step) for cell in cells for step in steps}


def places(cells, steps):
    """Where the steps lie whole on the cells, each asked for by itself."""
    held = set(cells)
    return {
        minus(cell, steps[0]) for cell in held
        if all(plus(minus(cell, steps[0]), step) in held for step in steps)
    }


class CellByCell(unittest.TestCase):
    """2.4, 2.5"""

    def test_against_the_plain_reckoning(self):
        pieces = some_pieces(41, 14) + [((0, 0),), ((2, -1),), ((0, 0), (0, 1), (1, 0), (1, 1))]
        for piece, shape in itertools.product(pieces, some_shapes(42, 24, most=18, span=2)):
            cells = window([shape], 5)
            for asked, plain in PLAIN:
                told = asked(shape, piece)
                self.assertTrue(is_shape(told))
                self.assertIs(told[1], shape[1])
                in_tuple = set(told[0])
                self.assertLessEqual(in_tuple, set(cells))
                for cell in cells:
                    self.assertEqual((cell in in_tuple) != told[1], plain(shape, piece, cell), (asked, shape, piece))

    def test_dense_shapes_of_which_something_is_left(self):
        for rows, columns in itertools.product(range(1, 6), repeat=2):
            block = (square(rows, columns), False)
            for high, wide in itertools.product(range(1, 4), repeat=2):
                piece = square(high, wide)
                fits = rows >= high and columns >= wide
                self.assertEqual(grown(block, piece), (square(rows + high - 1, columns + wide - 1), False))
                left = square(rows - high + 1, columns - wide + 1) if fits else ()
                self.assertEqual(eaten(block, piece), (left, False))
                self.assertEqual(opened(block, piece), block if fits else EMPTY)
                self.assertEqual(closed(block, piece), block)

    def test_grown_with_the_rest_lacks_where_the_mirrored_piece_lies_whole_outside(self):
        lacking = (square(3, 3), True)
        self.assertEqual(grown(lacking, ((0, 0), (0, 1))), (((0, 1), (0, 2), (1, 1), (1, 2), (2, 1), (2, 2)), True))
        self.assertEqual(eaten((((0, 0),), True), ((0, 0), (0, 1))), (((0, -1), (0, 0)), True))

    def test_the_empty_shape_and_that_of_all_cells(self):
        for piece in some_pieces(43, 20) + [square(20, 20)]:
            for asked in FOUR:
                self.assertEqual(asked(EMPTY, piece), EMPTY)
                self.assertEqual(asked(ALL, piece), ALL)

    def test_beyond_the_bound(self):
        corner = (((BOUND, BOUND),), False)
        piece = ((-1, 0), (0, 0), (1, 1))
        b = BOUND
        self.assertEqual(grown(corner, piece), (((b - 1, b), (b, b), (b + 1, b + 1)), False))
        self.assertEqual(eaten(outside(corner), piece), (((b - 1, b - 1), (b, b), (b + 1, b)), True))
        self.assertEqual(closed(corner, piece), corner)
        self.assertEqual(opened(outside(corner), piece), outside(corner))
        self.assertEqual(eaten(grown(corner, ((10 ** 6, 10 ** 6),)), ((10 ** 6, 10 ** 6),)), corner)
        low = (((-b, -b), (-b, b), (b, -b), (b, b)), False)
        self.assertEqual(set(grown(low, piece)[0]), sums(low[0], piece))
        self.assertEqual(closed(low, piece), low)


class Large(unittest.TestCase):
    """Shapes of 400 cells, pieces of 12 steps and wide ones."""

    def hold_against_plain(self, cells, piece):
        flipped = tuple(sorted((-r, -c) for r, c in piece))
        finite, endless = (cells, False), (cells, True)
        for told, asked in [
            (grown(finite, piece), sums(cells, piece)),
            (eaten(finite, piece), places(cells, piece)),
            (opened(finite, piece), sums(places(cells, piece), piece)),
            (closed(finite, piece), places(sums(cells, piece), piece)),
            (grown(endless, piece), places(cells, flipped)),
            (eaten(endless, piece), sums(cells, flipped)),
            (opened(endless, piece), places(sums(cells, flipped), flipped)),
            (closed(endless, piece), sums(places(cells, flipped), flipped)),
        ]:
            self.assertEqual(told[0], tuple(sorted(asked)))

    def shapes(self):
        scattered = tuple((k, (k * k) % 401) for k in range(400))
        far = tuple(sorted(plus(cell, (-BOUND, BOUND - 19)) for cell in square(20, 20)))
        ragged = tuple(sorted(((k * 37) % 29, (k * 11) % 31) for k in range(400)))
        return [square(20, 20), square(20, 20, 3), tuple((0, k) for k in range(400)), scattered, far, ragged]

    def test_pieces_of_12_steps(self):
        pieces = [
            square(3, 4), square(4, 3, 3), tuple((0, k) for k in range(12)), tuple((k, k * k) for k in range(-6, 6)),
            tuple((k, -k) for k in range(12)), tuple(sorted((k * 10 ** 6 // 11, -k * k) for k in range(12))),
        ]
        for cells, piece in itertools.product(self.shapes(), pieces):
            self.hold_against_plain(cells, piece)

    def test_wide_pieces(self):
        upright, bent = tuple((k, 0) for k in range(100)), tuple((k, k * k) for k in range(60))
        wide = [square(10, 10), square(6, 6, 3), upright, bent]
        for cells, piece in itertools.product(self.shapes(), wide):
            self.hold_against_plain(cells, piece)

    def test_400_cells_by_400_steps(self):
        block = square(20, 20)
        grid = square(20, 20, 20)
        self.assertEqual(grown((block, False), block), (square(39, 39), False))
        self.assertEqual(eaten((block, False), block), (((0, 0),), False))
        self.assertEqual(opened((block, False), block), (block, False))
        self.assertEqual(closed((block, False), block), (block, False))
        self.assertEqual(grown((grid, False), block), (square(400, 400), False))
        self.assertEqual(closed((grid, False), block), (square(381, 381), False))
        self.assertEqual(opened((grid, True), mirrored(block)), (square(381, 381), True))
        upright = tuple((k, 0) for k in range(400))
        strewn = tuple((400 * k, 0) for k in range(400))
        self.assertEqual(closed((strewn, False), upright)[0], tuple((k, 0) for k in range(400 * 399 + 1)))

    def test_steps_at_the_bound_of_wide_ones(self):
        b = 10 ** 8
        corners = ((-b, -b), (-b, b), (b, -b), (b, b))
        for cells in [((0, 0),), ((0, 0), (2 * b, 0)), ((-BOUND, 0), (0, 0), (0, 2 * b), (2 * b, 0), (2 * b, 2 * b))]:
            self.hold_against_plain(cells, corners)


class Rules(unittest.TestCase):
    """2.6, rule by rule"""

    def setUp(self):
        self.shapes = some_shapes(44, 16, most=14, span=2) + [(square(3, 4), False), (square(4, 3), True)]
        self.pieces = some_pieces(45, 10, most=4, span=1) + [((0, 0), (0, 1)), ((0, 0), (1, 0), (1, 1)), ((1, -2),)]

    def each(self):
        return itertools.product(self.shapes, self.pieces)

    def test_grown_within_just_where_within_eaten(self):
        seen = set()
        for one, other in itertools.product(self.shapes, repeat=2):
            for piece in self.pieces:
                is_within = within(grown(one, piece), other)
                self.assertEqual(is_within, within(one, eaten(other, piece)))
                seen.add((is_within, one[1], other[1]))
        self.assertEqual(len(seen), 7)

    def test_outsides(self):
        for shape, piece in self.each():
            flipped = mirrored(piece)
            self.assertEqual(outside(grown(shape, piece)), eaten(outside(shape), flipped))
            self.assertEqual(outside(eaten(shape, piece)), grown(outside(shape), flipped))
            self.assertEqual(outside(opened(shape, piece)), closed(outside(shape), flipped))
            self.assertEqual(outside(closed(shape, piece)), opened(outside(shape), flipped))

    def test_by_a_sum(self):
        for shape in self.shapes:
            for one, other in itertools.product(self.pieces, repeat=2):
                both_at_once = summed(one, other)
                self.assertEqual(grown(shape, both_at_once), grown(grown(shape, one), other))
                self.assertEqual(eaten(shape, both_at_once), eaten(eaten(shape, one), other))

    def test_opened_within_the_shape_within_closed(self):
        for shape, piece in self.each():
            self.assertTrue(within(opened(shape, piece), shape))
            self.assertTrue(within(shape, closed(shape, piece)))

    def test_twice_is_once(self):
        for shape, piece in self.each():
            self.assertEqual(opened(opened(shape, piece), piece), opened(shape, piece))
            self.assertEqual(closed(closed(shape, piece), piece), closed(shape, piece))

    def test_one_within_the_other_stays_so(self):
        for one, other in itertools.product(self.shapes, repeat=2):
            less = both(one, other)
            for piece, asked in itertools.product(self.pieces, FOUR):
                self.assertTrue(within(asked(less, piece), asked(other, piece)))

    def test_either_grown_and_both_eaten(self):
        for one, other in itertools.product(self.shapes, repeat=2):
            for piece in self.pieces:
                self.assertEqual(grown(either(one, other), piece), either(grown(one, piece), grown(other, piece)))
                self.assertEqual(eaten(both(one, other), piece), both(eaten(one, piece), eaten(other, piece)))

    def test_moved_shapes(self):
        for shape, piece in self.each():
            for step, asked in itertools.product([(1, -2), (BOUND, -BOUND), (0, 0)], FOUR):
                self.assertEqual(asked(moved(shape, step), piece), moved(asked(shape, piece), step))

    def test_turned_shapes(self):
        for shape, piece in self.each():
            for turn, asked in itertools.product(range(8), FOUR):
                told = asked(turned(shape, turn), turned_piece(piece, turn))
                self.assertEqual(told, turned(asked(shape, piece), turn))

    def test_moved_pieces(self):
        for shape, piece in self.each():
            for step in [(1, 0), (-2, 3), (1000, -1000)]:
                other = tuple(plus(cell, step) for cell in piece)
                self.assertEqual(grown(shape, other), moved(grown(shape, piece), step))
                self.assertEqual(eaten(shape, other), moved(eaten(shape, piece), minus((0, 0), step)))
                self.assertEqual(opened(shape, other), opened(shape, piece))
                self.assertEqual(closed(shape, other), closed(shape, piece))

    def test_asked_again_is_told_alike(self):
        """0.2"""
        for shape, piece in self.each():
            for asked in FOUR:
                self.assertEqual(asked(shape, piece), asked(shape, piece))


if __name__ == "__main__":
    unittest.main()
