import unittest

from edgemoss.errors import BadTurn
from edgemoss.turns import back_of, turned, turned_cell, turned_on
from plain import BOUND, FAR, holds, is_shape, some_shapes, square, window

TURNS = range(8)
NO_TURNS = [-1, 8, -8, 9, 15, 16, 100, -100, 10 ** 12, -10 ** 12, 10 ** 30, -10 ** 30]
CELLS = list(square(3, 4)) + [(-2, 5), (3, -7), (-1, -1)] + FAR
# What 1.3 makes of (r, c), written out by hand.
BY_HAND = [
    lambda r, c: (r, c),
    lambda r, c: (c, -r),
    lambda r, c: (-r, -c),
    lambda r, c: (-c, r),
    lambda r, c: (r, -c),
    lambda r, c: (-c, -r),
    lambda r, c: (-r, c),
    lambda r, c: (c, r),
]


class Turns(unittest.TestCase):
    """1.3"""

    def test_turned_cell(self):
        for turn in TURNS:
            for cell in CELLS:
                self.assertEqual(turned_cell(cell, turn), BY_HAND[turn](*cell))

    def test_the_turns_are_unlike(self):
        self.assertEqual(len({turned_cell((1, 2), turn) for turn in TURNS}), 8)

    def test_turned(self):
        for shape in some_shapes(21, 30) + [((FAR[1], FAR[0]), True)]:
            for turn in TURNS:
                told = turned(shape, turn)
                self.assertTrue(is_shape(told))
                self.assertEqual(told[1], shape[1])
                self.assertEqual(set(told[0]), {BY_HAND[turn](*cell) for cell in shape[0]})

    def test_turned_cell_by_cell(self):
        for shape in some_shapes(22, 10):
            for turn in TURNS:
                told = turned(shape, turn)
                for cell in window([shape]):
                    self.assertEqual(holds(told, BY_HAND[turn](*cell)), holds(shape, cell))

    def test_back_of(self):
        for turn in TURNS:
            back = back_of(turn)
            self.assertIn(back, TURNS)
            for cell in CELLS:
                self.assertEqual(turned_cell(turned_cell(cell, turn), back), cell)
                self.assertEqual(turned_cell(turned_cell(cell, back), turn), cell)

    def test_turned_on(self):
        for one in TURNS:
            for other in TURNS:
                alone = turned_on(one, other)
                self.assertIn(alone, TURNS)
                for cell in CELLS:
                    self.assertEqual(turned_cell(cell, alone), turned_cell(turned_cell(cell, one), other))

    def test_the_bound(self):
        self.assertEqual(turned_cell((BOUND, -BOUND), 1), (-BOUND, -BOUND))

    def test_bad_turn(self):
        for turn in NO_TURNS:
            with self.assertRaises(BadTurn):
                turned_cell((1, 2), turn)
            for shape in [((), False), ((), True), (((1, 2),), False), (((1, 2),), True)]:
                with self.assertRaises(BadTurn):
                    turned(shape, turn)
            with self.assertRaises(BadTurn):
                back_of(turn)

    def test_bad_turn_at_either_place(self):
        for wrong in NO_TURNS:
            for turn in list(TURNS) + NO_TURNS:
                with self.assertRaises(BadTurn):
                    turned_on(wrong, turn)
                with self.assertRaises(BadTurn):
                    turned_on(turn, wrong)

    def test_asked_again_is_told_alike(self):
        """0.2"""
        shape = (((0, 1), (2, 3)), True)
        for turn in TURNS:
            self.assertEqual(turned(shape, turn), turned(shape, turn))
            self.assertEqual(shape, (((0, 1), (2, 3)), True))


if __name__ == "__main__":
    unittest.main()
