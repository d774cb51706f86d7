import copy
import random
import unittest

from edgemoss.errors import BadCell, Endless, NoCell, TooMany
from edgemoss.loose import loose_cells, may_come
from edgemoss.thinning import left_by, thinned, thinning_right, undone
from plain import (
    AROUND, BOUND, FAR, RINGS, SPIRAL, check_own, check_quick, from_rows, full_shapes, holes_in_shape, is_cell,
    is_loose_in, is_shape, one_to_one, parts_in_shape, plus, some_blots, square, without,
)

EMPTY = ((), False)
ROW = (((0, 0), (0, 1), (0, 2), (0, 3)), False)


def plain_thinning(shape, kept, taken):
    """9.2 word by word."""
    for cell in taken:
        if cell not in shape[0] or cell in kept or not is_loose_in(shape, cell):
            return False
        shape = without(shape, cell)
    return all(cell in kept for cell in shape[0] if is_loose_in(shape, cell))


def any_thinning(dice, shape, kept):
    """Some thinning, by taking whichever cell may go."""
    taken = []
    while True:
        free = [cell for cell in shape[0] if cell not in kept and is_loose_in(shape, cell)]
        if not free:
            return taken
        taken.append(dice.choice(free))
        shape = without(shape, taken[-1])


class Asked(unittest.TestCase):

    def setUp(self):
        self.shapes = [EMPTY, (((0, 0),), False), ROW, RINGS, SPIRAL, (square(3, 3), False)]
        self.shapes += some_blots(161, 40) + some_blots(162, 6, 8, 8) + some_blots(163, 6, top=-BOUND, left=BOUND - 4)

    def kept_rows(self, dice, shape):
        """None, some, all, in any order, twice, and such that the shape hasn't."""
        cells = list(shape[0])
        dice.shuffle(cells)
        some = cells[:3]
        return [[], (), some, some + some[:2] + [(99, 99), (-BOUND, 5)], tuple(cells), [(0, 0), (2, 2), (4, 1)]]


class Thinned(Asked):
    """9.2"""

    def test_is_a_thinning(self):
        dice = random.Random(164)
        for shape in self.shapes:
            for kept in self.kept_rows(dice, shape):
                told = thinned(shape, kept)
                self.assertIs(type(told), list)
                self.assertTrue(all(map(is_cell, told)))
                self.assertTrue(plain_thinning(shape, kept, told))
                self.assertIs(thinning_right(shape, kept, told), True)

    def test_by_hand(self):
        self.assertEqual(thinned(EMPTY, []), [])
        self.assertEqual(thinned((((3, 3),), False), []), [])
        self.assertEqual(len(thinned(ROW, [])), 3)
        self.assertEqual(thinned(ROW, ROW[0]), [])
        self.assertEqual(thinned(ROW, [(0, 0), (0, 3)]), [])
        self.assertEqual(sorted(thinned(ROW, [(0, 1)])), [(0, 0), (0, 2), (0, 3)])
        self.assertEqual(thinned(ROW, ((0, 0),)), [(0, 3), (0, 2), (0, 1)])
        self.assertEqual(thinned(ROW, ((0, 3),)), [(0, 0), (0, 1), (0, 2)])

    def test_a_ring_stays_one(self):
        left = left_by(RINGS, thinned(RINGS, []))
        self.assertEqual(len(parts_in_shape(left)), 3)
        self.assertEqual(len(holes_in_shape(left)), 2)
        self.assertEqual(loose_cells(left), [])

    def test_endless(self):
        for shape in (((), True), (((0, 0),), True)):
            self.assertRaises(Endless, thinned, shape, [])
            self.assertRaises(Endless, thinned, shape, [(0, 0), (5, 5)])


class ThinningRight(Asked):
    """9.2, 9.3"""

    def test_of_any_thinning(self):
        dice = random.Random(165)
        for shape in self.shapes[:30]:
            for kept in self.kept_rows(dice, shape)[::2]:
                taken = any_thinning(dice, shape, kept)
                self.assertIs(thinning_right(shape, kept, taken), True)
                self.assertIs(thinning_right(shape, kept, tuple(taken)), True)

    def test_spoilt_rows(self):
        dice = random.Random(166)
        met = {True: 0, False: 0}
        for shape in self.shapes[1:36]:
            for kept in self.kept_rows(dice, shape)[1:4]:
                taken = any_thinning(dice, shape, kept)
                for row in self.spoilt(dice, shape, taken):
                    asked = plain_thinning(shape, kept, row)
                    self.assertIs(thinning_right(shape, kept, row), asked)
                    met[asked] += 1
        self.assertGreater(min(met.values()), 20)

    def spoilt(self, dice, shape, taken):
        """Ended too early, gone on with a cell, twice, exchanged, turned round, moved."""
        place = dice.randint(0, len(taken))
        any_cell = dice.choice(shape[0])
        mixed = list(taken)
        dice.shuffle(mixed)
        return [
            taken[:-1], taken[:place], taken[1:], taken + [any_cell], taken[:place] + [any_cell] + taken[place:],
            taken[:place] + [(50, 50)] + taken[place:], taken + taken[-1:], taken + taken, mixed, taken[::-1], [],
            [plus(cell, (1, 0)) for cell in taken], list(shape[0]),
        ]

    def test_by_hand(self):
        for kept, taken, asked in [
            ([], [(0, 0), (0, 1), (0, 2)], True), ([], [(0, 3), (0, 0), (0, 1)], True),
            ([], [(0, 0), (0, 1)], False),                              # ends too early
            ([], [], False),
            ([], [(0, 0), (0, 2), (0, 3)], False),                      # a bridge
            ([], [(0, 0), (0, 1), (0, 2), (0, 3)], False),              # alone
            ([(0, 3)], [(0, 0), (0, 1), (0, 2)], True),
            ([(0, 0)], [(0, 0), (0, 1), (0, 2)], False),                # kept
            ([(0, 2)], [(0, 0), (0, 1), (0, 2)], False),
            ([], [(1, 0), (0, 0), (0, 1), (0, 2)], False),              # not there
            ([], [(0, 0), (0, 0), (0, 1), (0, 2)], False),              # twice
            ([(0, 0), (0, 3)], [], True), ([(0, 0), (0, 3)], [(0, 3)], False), (ROW[0], (), True),
            ([(0, 3), (0, 0), (0, 3), (9, 9)], [], True), ([(9, 9)], [], False),
        ]:
            self.assertIs(thinning_right(ROW, kept, taken), asked, (kept, taken))
        self.assertIs(thinning_right(EMPTY, [], []), True)
        self.assertIs(thinning_right(EMPTY, [(0, 0)], [(0, 0)]), False)
        self.assertIs(thinning_right((square(3, 3), False), [], [(1, 1)]), False)

    def test_endless(self):
        for shape in (((), True), (((0, 0),), True)):
            for taken in ([], [(0, 0)], [(9, 9)]):
                self.assertRaises(Endless, thinning_right, shape, [], taken)


class LeftBy(Asked):
    """9.3"""

    def test_some_and_all(self):
        dice = random.Random(167)
        for shape in self.shapes:
            for _ in range(4):
                cells = list(shape[0])
                dice.shuffle(cells)
                taken = cells[:dice.randint(0, len(cells))]
                told = left_by(shape, taken)
                self.assertTrue(is_shape(told))
                self.assertEqual(told, (tuple(sorted(set(shape[0]) - set(taken))), False))
                self.assertEqual(left_by(shape, tuple(taken)), told)
            self.assertEqual(left_by(shape, shape[0]), EMPTY)
            self.assertEqual(left_by(shape, []), shape)

    def test_no_cell(self):
        self.assertRaises(NoCell, left_by, EMPTY, [(0, 0)])
        self.assertRaises(NoCell, left_by, ROW, [(1, 0)])
        self.assertRaises(NoCell, left_by, ROW, [(0, 0), (0, 0)])
        self.assertRaises(NoCell, left_by, ROW, [(0, 2), (0, 1), (0, 2)])
        self.assertRaises(NoCell, left_by, ROW, list(ROW[0]) + [(0, 4)])

    def test_endless_first(self):
        for taken in ([], [(0, 0)], [(9, 9), (9, 9)]):
            self.assertRaises(Endless, left_by, (((0, 0),), True), taken)


class Undone(Asked):
    """9.4"""

    def test_none_some_and_all(self):
        dice = random.Random(168)
        for shape in self.shapes:
            taken = thinned(shape, [])
            left = left_by(shape, taken)
            self.assertEqual(undone(left, taken, len(taken)), shape)
            self.assertEqual(undone(left, taken, 0), left)
            many = dice.randint(0, len(taken))
            told = undone(left, tuple(taken), many)
            self.assertTrue(is_shape(told))
            self.assertEqual(told, left_by(shape, taken[:len(taken) - many]))

    def test_each_cell_is_loose_where_it_comes(self):
        for shape in self.shapes[:20]:
            taken = thinned(shape, [])
            left = left_by(shape, taken)
            for many in range(1, len(taken) + 1):
                ahead = undone(left, taken, many - 1)
                self.assertTrue(may_come(ahead, taken[-many]))
                self.assertTrue(is_loose_in(undone(left, taken, many), taken[-many]))

    def test_by_hand(self):
        taken = [(0, 0), (0, 1), (0, 2)]
        left = (((0, 3),), False)
        self.assertEqual(undone(left, taken, 1), (((0, 2), (0, 3)), False))
        self.assertEqual(undone(left, taken, 2), (((0, 1), (0, 2), (0, 3)), False))
        self.assertEqual(undone(left, taken, 3), ROW)
        self.assertEqual(undone(EMPTY, [], 0), EMPTY)

    def test_too_many(self):
        taken = [(0, 0), (0, 1)]
        for many in (-1, -2, 3, 4, 10 ** 30, -10 ** 30):
            self.assertRaises(TooMany, undone, EMPTY, taken, many)
        for many in (-1, 1):
            self.assertRaises(TooMany, undone, EMPTY, [], many)

    def test_too_many_ahead_of_bad_cell(self):
        taken = [(0, 0), (0, 1)]
        self.assertRaises(TooMany, undone, ROW, taken, 3)
        self.assertRaises(TooMany, undone, ROW, taken, -1)
        self.assertRaises(BadCell, undone, ROW, taken, 2)

    def check_place(self, left, taken, many, place):
        with self.assertRaises(BadCell) as caught:
            undone(left, taken, many)
        self.assertEqual(caught.exception.place, place)
        self.assertIs(type(caught.exception.place), int)

    def test_bad_cell_with_its_place(self):
        left = (((0, 3), (5, 5)), False)
        self.check_place(left, [(0, 0), (0, 1), (5, 5)], 1, 2)
        self.check_place(left, [(0, 0), (5, 5), (0, 2)], 2, 1)
        self.check_place(left, [(5, 5), (0, 1), (0, 2)], 3, 0)
        # The last one first: the place told is the greater one of two.
        self.check_place(left, [(5, 5), (0, 3), (0, 2)], 3, 1)
        # Put back by this very call.
        self.check_place(left, [(1, 1), (0, 1), (1, 1)], 3, 0)
        self.check_place(left, ((1, 1), (1, 1), (0, 1), (1, 1)), 4, 1)

    def test_only_cells_that_are_to_be_put_back_are_looked_at(self):
        left = (((5, 5),), False)
        self.assertEqual(undone(left, [(5, 5), (0, 1), (0, 2)], 2), (((0, 1), (0, 2), (5, 5)), False))
        self.assertEqual(undone(left, [(5, 5), (5, 5)], 0), left)
        self.assertEqual(undone(left, [(0, 1), (0, 1)], 1), (((0, 1), (5, 5)), False))

    def test_endless_first(self):
        for many in (-1, 0, 1, 2, 9):
            self.assertRaises(Endless, undone, (((0, 0),), True), [(0, 0), (3, 3)], many)
            self.assertRaises(Endless, undone, ((), True), [], many)


class OneToOne(Asked):
    """9.5"""

    def test_parts_and_holes(self):
        dice = random.Random(169)
        for shape in self.shapes[1:]:
            if shape == EMPTY:
                continue
            for kept in self.kept_rows(dice, shape)[::2]:
                left = left_by(shape, thinned(shape, kept))
                self.assertTrue(one_to_one(shape, left))

    def test_a_part_without_holes_and_kept_cells_ends_as_one_cell(self):
        met = 0
        for shape in self.shapes + full_shapes():
            left = left_by(shape, thinned(shape, []))
            rims = {plus(cell, step) for hole in holes_in_shape(shape) for cell in hole for step in AROUND}
            for part in parts_in_shape(shape):
                if not rims & set(part):
                    met += len(part) > 5
                    self.assertEqual(len(set(part) & set(left[0])), 1)
        self.assertGreater(met, 10)

    def test_kept_cells_hold_their_parts(self):
        left = left_by(ROW, thinned(ROW, [(0, 0), (0, 2)]))
        self.assertEqual(left, (((0, 0), (0, 1), (0, 2)), False))
        left = left_by((square(5, 5), False), thinned((square(5, 5), False), [(0, 0), (4, 4)]))
        self.assertTrue({(0, 0), (4, 4)} <= set(left[0]))
        self.assertEqual(len(parts_in_shape(left)), 1)


class Handed(Asked):
    """0.2"""

    def test_lists_are_ones_own_and_what_is_handed_in_stays(self):
        shape = (square(4, 4), False)
        kept, taken = [(0, 0), (9, 9), (0, 0)], thinned(shape, [(0, 0)])
        ahead = copy.deepcopy([shape, kept, taken])
        check_own(self, lambda: thinned(shape, kept))
        left = left_by(shape, taken)
        self.assertIs(thinning_right(shape, kept, taken), True)
        self.assertEqual(undone(left, taken, len(taken)), shape)
        self.assertRaises(BadCell, undone, shape, taken, 1)
        self.assertEqual([shape, kept, taken], ahead)
        taken.clear()
        kept.clear()
        self.assertEqual(left, left_by(shape, ahead[2]))

    def test_400_cells_are_answered_soon(self):
        long = (tuple((0, c) for c in range(400)), False)
        for shape in full_shapes() + [long]:
            for kept in ([], list(shape[0][:1]), list(shape[0][::-1]), FAR * 80, shape[0][-1:]):
                taken = thinned(shape, kept)
                left = left_by(shape, taken)
                check_quick(self, [
                    lambda: thinned(shape, kept), lambda: thinning_right(shape, kept, taken),
                    lambda: left_by(shape, taken), lambda: undone(left, taken, len(taken)),
                ])

    def test_400_cells_are_thinned_right(self):
        for shape in full_shapes():
            for kept in ([], shape[0][::7]):
                self.assertIs(thinning_right(shape, kept, thinned(shape, kept)), True)
        rows = from_rows(["#" * 20] * 20)
        self.assertEqual(len(thinned(rows, [])), 399)


if __name__ == "__main__":
    unittest.main()
