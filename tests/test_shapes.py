import copy
import random
import unittest

from edgemoss.errors import BadCell, MossError, TooMany
from edgemoss.shapes import both, counted, either, has, made, moved, outside, within
from plain import BOUND, FAR, holds, is_shape, plus, some_shapes, square, window

EMPTY = ((), False)
ALL = ((), True)
NO_CELLS = [
    [1, 2], (), (1,), (1, 2, 3), (True, 0), (0, False), ("1", 0), (0, "1"), (None, 0), (0, None),
    ((0, 0), 0), (0, (0, 0)), ([0], 0), None, True, False, "", "ab", "(0, 0)", 0, 17, {}, {0: 1}, {0: 0, 1: 1},
    set(), {1, 2}, frozenset({1, 2}), b"ab", object(), int, range(2), [], [(0, 0)], ((0, 0), (1, 1)),
    (BOUND + 1, 0), (0, BOUND + 1), (-BOUND - 1, 0), (0, -BOUND - 1), (10 ** 30, 0), (0, -10 ** 30),
]


def refused_at(cells, *rest):
    try:
        made(cells, *rest)
    except BadCell as error:
        return error.place
    return None


class Made(unittest.TestCase):
    """1.1, with 0.3, 0.5, 0.6, 0.7"""

    def test_of_a_list_and_of_a_tuple(self):
        self.assertEqual(made([(0, 1), (0, 0)]), (((0, 0), (0, 1)), False))
        self.assertEqual(made(((0, 1), (0, 0))), (((0, 0), (0, 1)), False))

    def test_any_order_some_more_than_once(self):
        cells = [(2, -1), (-3, 5), (2, -1), (0, 0), (-3, -5), (0, 0), (2, -2)]
        told = (((-3, -5), (-3, 5), (0, 0), (2, -2), (2, -1)), False)
        dice = random.Random(11)
        for _ in range(50):
            dice.shuffle(cells)
            self.assertEqual(made(cells), told)
            self.assertEqual(made(tuple(cells)), told)
            self.assertTrue(is_shape(made(cells)))

    def test_rest_left_out_by_place_and_by_name(self):
        self.assertIs(made([(1, 2)])[1], False)
        for rest in (True, False):
            self.assertEqual(made([(1, 2)], rest), (((1, 2),), rest))
            self.assertEqual(made([(1, 2)], rest=rest), (((1, 2),), rest))
            self.assertTrue(is_shape(made([(1, 2)], rest)))

    def test_no_cells_at_all(self):
        for row in ([], ()):
            self.assertEqual(made(row), EMPTY)
            self.assertEqual(made(row, True), ALL)

    def test_the_bounds_themselves(self):
        for cell in [(BOUND, 0), (-BOUND, 0), (0, BOUND), (0, -BOUND), (BOUND, -BOUND), (-BOUND, BOUND)]:
            self.assertEqual(made([cell]), ((cell,), False))
            self.assertEqual(made((cell,), True), ((cell,), True))

    def test_what_is_no_cell(self):
        for thing in NO_CELLS:
            for rest in (True, False):
                self.assertEqual(refused_at([thing], rest), 0, thing)
                self.assertEqual(refused_at((thing,), rest), 0, thing)
                self.assertEqual(refused_at([(0, 0), (0, 0), thing, (1, 1)], rest), 2, thing)

    def test_the_first_of_several(self):
        for thing in NO_CELLS:
            self.assertEqual(refused_at([(5, 5), thing, None, (BOUND + 1, 0)]), 1, thing)
            self.assertEqual(refused_at([(5, 5), (BOUND + 1, 0), thing]), 1, thing)

    def test_bad_cell_is_ahead_of_too_many(self):
        cells = [(k, -k) for k in range(999)]
        for thing in NO_CELLS:
            self.assertEqual(refused_at(cells + [thing]), 999)
            self.assertEqual(refused_at(cells[:500] + [thing] + cells[500:]), 500)

    def test_400_unlike_cells_and_401(self):
        for rest in (True, False):
            cells = [(k, k % 7) for k in range(401)]
            self.assertEqual(made(cells[:400], rest), (tuple(cells[:400]), rest))
            with self.assertRaises(TooMany):
                made(cells, rest)
            with self.assertRaises(TooMany):
                made(tuple(reversed(cells)), rest)

    def test_1000_things_of_which_400_are_unlike(self):
        cells = [(k % 400, 3) for k in range(1000)]
        self.assertEqual(made(cells), (tuple((k, 3) for k in range(400)), False))
        with self.assertRaises(TooMany):
            made([(k % 401, 3) for k in range(1000)])

    def test_the_row_stays_and_is_not_kept(self):
        cells = [(3, 3), (1, 1), (3, 3), (2, 2)]
        ahead = copy.deepcopy(cells)
        told = made(cells)
        self.assertEqual(cells, ahead)
        self.assertEqual(made(cells), told)
        cells.clear()
        self.assertEqual(told, (((1, 1), (2, 2), (3, 3)), False))
        wrong = [(0, 0), [1, 2], None]
        ahead = copy.deepcopy(wrong)
        self.assertEqual(refused_at(wrong), 1)
        self.assertEqual(refused_at(wrong), 1)
        self.assertEqual(wrong, ahead)

    def test_refusals_are_of_the_told_classes(self):
        for row in ([None], [(k, 0) for k in range(401)]):
            with self.assertRaises(MossError):
                made(row)


class Asked(unittest.TestCase):
    """1.2"""

    def setUp(self):
        self.shapes = some_shapes(12, 40) + [((FAR[0], ), True), ((FAR[1], FAR[0]), False)]

    def pairs(self):
        return [(one, other) for one in self.shapes for other in self.shapes]

    def cells(self):
        return window([shape for shape in self.shapes if not set(shape[0]) & set(FAR)])

    def test_all_four_ways_are_tried(self):
        ways = {(one[1], other[1]) for one, other in self.pairs()}
        self.assertEqual(len(ways), 4)

    def test_has(self):
        for shape in self.shapes:
            for cell in self.cells():
                self.assertIs(has(shape, cell), holds(shape, cell))

    def test_within(self):
        for one, other in self.pairs():
            # With the rest, only a cell far from all told ones tells that there is no end.
            cells = self.cells() + [(77, 77)]
            asked = all(holds(other, cell) for cell in cells if holds(one, cell))
            self.assertIs(within(one, other), asked, (one, other))

    def test_both_and_either(self):
        cells = self.cells()
        held = [[holds(shape, cell) for cell in cells] for shape in self.shapes]
        for k, one in enumerate(self.shapes):
            for n, other in enumerate(self.shapes):
                meet, join = both(one, other), either(one, other)
                self.assertTrue(is_shape(meet) and is_shape(join))
                self.assertIs(meet[1], one[1] and other[1])
                self.assertIs(join[1], one[1] or other[1])
                in_meet, in_join = set(meet[0]), set(join[0])
                for cell, first, second in zip(cells, held[k], held[n]):
                    self.assertEqual((cell in in_meet) != meet[1], first and second)
                    self.assertEqual((cell in in_join) != join[1], first or second)
                self.assertLessEqual(in_meet | in_join, set(cells))

    def test_outside(self):
        for shape in self.shapes:
            self.assertTrue(is_shape(outside(shape)))
            for cell in self.cells():
                self.assertEqual(holds(outside(shape), cell), not holds(shape, cell))
            self.assertEqual(outside(outside(shape)), shape)

    def test_a_shape_and_itself_and_its_outside(self):
        for shape in self.shapes:
            self.assertEqual(both(shape, shape), shape)
            self.assertEqual(either(shape, shape), shape)
            self.assertIs(within(shape, shape), True)
            self.assertEqual(both(shape, outside(shape)), EMPTY)
            self.assertEqual(either(shape, outside(shape)), ALL)
            self.assertIs(within(shape, outside(shape)), shape == EMPTY)
            self.assertIs(within(EMPTY, shape), True)
            self.assertIs(within(shape, ALL), True)
            self.assertIs(within(shape, EMPTY), shape == EMPTY)
            self.assertIs(within(ALL, shape), shape == ALL)

    def test_an_endless_shape_is_never_within_a_finite_one(self):
        lacking = made(square(20, 20), True)
        self.assertIs(within(lacking, outside(lacking)), False)
        self.assertIs(within(ALL, EMPTY), False)

    def test_moved(self):
        for shape in self.shapes:
            for step in [(0, 0), (1, -2), (-3, 0), (BOUND, -BOUND), (-BOUND, BOUND)]:
                told = moved(shape, step)
                self.assertTrue(is_shape(told))
                self.assertEqual(told, (tuple(plus(cell, step) for cell in shape[0]), shape[1]))
                self.assertEqual(moved(told, (-step[0], -step[1])), shape)

    def test_moved_beyond_the_bound(self):
        self.assertEqual(moved((((BOUND, BOUND),), True), (BOUND, 1)), (((2 * BOUND, BOUND + 1),), True))

    def test_counted(self):
        for shape in self.shapes:
            if shape[1]:
                self.assertIsNone(counted(shape))
            else:
                self.assertEqual(counted(shape), len(set(shape[0])))
        self.assertEqual(counted(EMPTY), 0)
        self.assertIsNone(counted(ALL))
        self.assertEqual(counted(made(square(20, 20))), 400)

    def test_400_cells_either_way(self):
        one = made(square(20, 20))
        other = moved(one, (10, 10))
        self.assertEqual(counted(both(one, other)), 100)
        self.assertEqual(counted(either(one, other)), 700)
        self.assertEqual(len(both(outside(one), outside(other))[0]), 700)
        self.assertEqual(len(either(outside(one), outside(other))[0]), 100)
        self.assertEqual(counted(both(one, outside(other))), 300)

    def test_asked_again_is_told_alike(self):
        """0.2"""
        for one, other in self.pairs()[:200]:
            ahead = copy.deepcopy((one, other))
            for asked in (within, both, either):
                self.assertEqual(asked(one, other), asked(one, other))
            self.assertEqual((one, other), ahead)


if __name__ == "__main__":
    unittest.main()
