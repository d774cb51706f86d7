import copy
import random
import unittest

from edgemoss.errors import BadPiece, BadTurn, TooMany
from edgemoss.pieces import clear_at, made_piece, mirrored, summed, times, turned_piece, whole_at
from edgemoss.turns import turned_cell
from plain import FAR, is_piece, lies_clear, lies_whole, plus, some_pieces, some_shapes, square, window

STEP_BOUND = 10 ** 6
NO_STEPS = [
    [1, 2], (), (1,), (1, 2, 3), "ab", "", (True, 0), (0, False), ("1", 0), (0, "1"), (None, 0), (0, None),
    ((0, 0), 0), None, True, 5, {}, {0: 1, 1: 2}, set(), frozenset({1, 2}), b"ab", object(), int, range(2), [],
    [(0, 0)], ((0, 0),), (STEP_BOUND + 1, 0), (0, STEP_BOUND + 1), (-STEP_BOUND - 1, 0), (0, -STEP_BOUND - 1),
    (10 ** 12, 0), (0, -10 ** 30),
]
NO_ROWS = [
    None, 0, 7, -1, 10 ** 30, True, False, "", "ab", "(0, 0)", {}, {(0, 0): (0, 0)}, {(0, 0)}, frozenset({(0, 0)}),
    b"", b"ab", object(), int, range(3), iter([(0, 0)]), (0, 0), (3, -4), [0, 0], [], (),
]


def line(many, start=0):
    return tuple((0, start + k) for k in range(many))


class MadePiece(unittest.TestCase):
    """2.1"""

    def test_of_lists_and_tuples_in_any_order(self):
        steps = [(2, -1), (-3, 5), (2, -1), (0, 0), (-3, -5), (0, 0)]
        dice = random.Random(31)
        for _ in range(30):
            dice.shuffle(steps)
            for row in (steps, tuple(steps)):
                self.assertEqual(made_piece(row), ((-3, -5), (-3, 5), (0, 0), (2, -1)))
                self.assertTrue(is_piece(made_piece(row)))

    def test_one_step(self):
        self.assertEqual(made_piece([(5, 5)]), ((5, 5),))
        self.assertEqual(made_piece(((5, 5),) * 50), ((5, 5),))

    def test_12_unlike_steps_and_13(self):
        for stride in (1, -7):
            steps = [(k * stride, k % 3) for k in range(13)]
            self.assertEqual(made_piece(steps[:12]), tuple(sorted(steps[:12])))
            self.assertEqual(made_piece(steps[:12] * 5), tuple(sorted(steps[:12])))
            for row in (steps, tuple(steps), steps * 3):
                with self.assertRaises(BadPiece):
                    made_piece(row)

    def test_the_bounds(self):
        b = STEP_BOUND
        for step in [(b, 0), (-b, 0), (0, b), (0, -b), (b, -b), (-b, b)]:
            self.assertEqual(made_piece([step]), (step,))
            self.assertEqual(made_piece((step, (0, 0))), tuple(sorted([step, (0, 0)])))

    def test_what_is_no_row(self):
        for thing in NO_ROWS:
            with self.assertRaises(BadPiece, msg=repr(thing)):
                made_piece(thing)

    def test_a_thing_that_is_no_step(self):
        for thing in NO_STEPS:
            for row in ([thing], (thing,), [(0, 0), thing], ((0, 0), (1, 1), thing, (2, 2)), [thing, thing]):
                with self.assertRaises(BadPiece, msg=repr(row)):
                    made_piece(row)

    def test_what_was_handed_in_stays_and_is_not_kept(self):
        steps = [(1, 1), (0, 0), (1, 1)]
        ahead = copy.deepcopy(steps)
        told = made_piece(steps)
        self.assertEqual(steps, ahead)
        self.assertEqual(made_piece(steps), told)
        steps[0] = (9, 9)
        steps.append((5, 5))
        self.assertEqual(told, ((0, 0), (1, 1)))
        wrong = [(0, 0), [1, 2]]
        for _ in range(2):
            with self.assertRaises(BadPiece):
                made_piece(wrong)
        self.assertEqual(wrong, [(0, 0), [1, 2]])


class Wide(unittest.TestCase):
    """2.2, 2.3"""

    def setUp(self):
        b = 10 ** 8
        self.wide = [
            square(20, 20), square(20, 20, 5), line(400, -200), ((-b, -b), (-b, b), (b, -b), (b, b)),
            tuple((k, -k * k) for k in range(-200, 200)),
        ]
        self.pieces = some_pieces(32, 30, most=12, span=4) + self.wide

    def test_mirrored(self):
        for piece in self.pieces:
            told = mirrored(piece)
            self.assertTrue(is_piece(told))
            self.assertEqual(set(told), {(-r, -c) for r, c in piece})
            self.assertEqual(mirrored(told), piece)
        self.assertEqual(mirrored(((0, 0), (1, 2), (3, -4))), ((-3, 4), (-1, -2), (0, 0)))

    def test_turned_piece(self):
        for piece in self.pieces:
            for turn in range(8):
                told = turned_piece(piece, turn)
                self.assertTrue(is_piece(told))
                self.assertEqual(set(told), {turned_cell(step, turn) for step in piece})
                self.assertEqual(len(told), len(piece))

    def test_bad_turn(self):
        for turn in (-1, 8, 9, -8, 100, 10 ** 30, -10 ** 30):
            for piece in (((0, 0),), ((0, 0), (1, 2)), square(20, 20)):
                with self.assertRaises(BadTurn):
                    turned_piece(piece, turn)

    def test_summed_either_way_about(self):
        for one in self.pieces[:30]:
            for other in self.pieces[:30]:
                told = summed(one, other)
                self.assertTrue(is_piece(told))
                self.assertEqual(set(told), {plus(step, next_step) for step in one for next_step in other})
                self.assertEqual(summed(other, one), told)

    def test_sums_of_400_and_401(self):
        self.assertEqual(summed(line(399), line(2)), line(400))
        self.assertEqual(summed(line(2), line(399)), line(400))
        self.assertEqual(summed(line(200), line(201)), line(400))
        self.assertEqual(summed(square(20, 20), ((5, 5),)), tuple(plus(step, (5, 5)) for step in square(20, 20)))
        rows = tuple((k, 0) for k in range(20))
        self.assertEqual(summed(rows, line(20)), square(20, 20))
        for one, other in [(line(400), line(2)), (line(201), line(201)), (line(21), rows), (square(20, 20), rows)]:
            with self.assertRaises(TooMany):
                summed(one, other)
            with self.assertRaises(TooMany):
                summed(other, one)

    def test_times(self):
        for piece in some_pieces(33, 40, most=4, span=2):
            asked = {(0, 0)}
            for many in range(1, 7):
                asked = {plus(step, more) for step in asked for more in piece}
                if len(asked) > 400:
                    with self.assertRaises(TooMany):
                        times(piece, many)
                    continue
                self.assertEqual(times(piece, many), tuple(sorted(asked)))
                self.assertTrue(is_piece(times(piece, many)))

    def test_times_one_is_the_piece_itself(self):
        for piece in self.pieces:
            self.assertEqual(times(piece, 1), piece)

    def test_times_of_400_and_401(self):
        self.assertEqual(times(line(134), 3), line(400))
        self.assertEqual(times(line(58), 6), line(343))
        self.assertEqual(times(line(12), 6), line(67))
        for steps, many in [(201, 2), (101, 4), (81, 5), (400, 2), (68, 6), (401, 1)]:
            with self.assertRaises(TooMany):
                times(line(steps), many)

    def test_refused_at_the_very_time(self):
        piece = tuple((k * k, 3 ** k) for k in range(12))
        self.assertEqual(len(times(piece, 2)), 78)
        self.assertEqual(len(times(piece, 3)), 364)
        for many in (4, 5, 6):
            with self.assertRaises(TooMany):
                times(piece, many)


class Lying(unittest.TestCase):
    """0.8"""

    def test_whole_and_clear(self):
        for piece in some_pieces(34, 12):
            for shape in some_shapes(35, 20, most=20, span=2):
                for cell in window([shape], 3):
                    self.assertIs(whole_at(shape, piece, cell), lies_whole(shape, piece, cell))
                    self.assertIs(clear_at(shape, piece, cell), lies_clear(shape, piece, cell))

    def test_the_empty_shape_and_that_of_all_cells(self):
        for piece in some_pieces(36, 10) + [square(20, 20)]:
            for cell in FAR + [(0, 0)]:
                self.assertIs(whole_at(((), False), piece, cell), False)
                self.assertIs(clear_at(((), False), piece, cell), True)
                self.assertIs(whole_at(((), True), piece, cell), True)
                self.assertIs(clear_at(((), True), piece, cell), False)

    def test_wide_pieces(self):
        wide = square(20, 20)
        for rest in (False, True):
            for cell in [(0, 0), (1, 0), (0, -1), (19, 19), (20, 0), (0, -20), (-20, 20)]:
                self.assertIs(whole_at((wide, rest), wide, cell), lies_whole((wide, rest), wide, cell))
                self.assertIs(clear_at((wide, rest), wide, cell), lies_clear((wide, rest), wide, cell))

    def test_at_the_bound(self):
        b = 10 ** 12
        shape = (((b, b - 1), (b, b)), False)
        self.assertIs(whole_at(shape, ((0, -1), (0, 0)), (b, b)), True)
        self.assertIs(whole_at(shape, ((0, 0), (0, 1)), (b, b)), False)
        self.assertIs(clear_at(shape, ((0, 1), (1, 0)), (b, b)), True)

    def test_asked_again_is_told_alike(self):
        """0.2"""
        piece, shape = ((0, 0), (0, 1)), (((0, 0), (0, 1)), True)
        for asked in (whole_at, clear_at):
            self.assertEqual(asked(shape, piece, (0, 0)), asked(shape, piece, (0, 0)))
        self.assertEqual(summed(piece, piece), summed(piece, piece))
        self.assertEqual((piece, shape), (((0, 0), (0, 1)), (((0, 0), (0, 1)), True)))


if __name__ == "__main__":
    unittest.main()
