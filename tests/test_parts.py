import copy
import random
import unittest

from edgemoss.errors import Endless, NoCell, TooWide
from edgemoss.parts import holes, part_of, parts, surplus
from plain import (
    AROUND, BOUND, FAR, RINGS, SPIRAL, check_own, check_quick, from_rows, full_shapes, holds, holes_in_shape, is_piece,
    is_rising, parts_in_shape, plus, some_blots, some_shapes, square,
)

EMPTY = ((), False)


def moved_far(shape, step):
    return (tuple(plus(cell, step) for cell in shape[0]), shape[1])


class Asked(unittest.TestCase):

    def setUp(self):
        self.shapes = [EMPTY, (((0, 0),), False), RINGS, SPIRAL] + some_blots(141, 150) + some_blots(142, 60, 3, 9)
        self.shapes += some_blots(143, 20, 12, 12) + some_blots(144, 20, top=-BOUND, left=BOUND - 4)
        self.shapes += [shape for shape in some_shapes(145, 60, most=14) if not shape[1]]

    def check_form(self, told):
        self.assertIs(type(told), list)
        self.assertTrue(is_rising(told))
        self.assertTrue(all(map(is_piece, told)))


class Parts(Asked):
    """8.1"""

    def test_against_the_plain_reckoning(self):
        met = set()
        for shape in self.shapes:
            told = parts(shape)
            self.check_form(told)
            self.assertEqual(told, parts_in_shape(shape))
            met.add(len(told))
        self.assertGreater(len(met), 5)

    def test_by_hand(self):
        self.assertEqual(parts(EMPTY), [])
        self.assertEqual(parts((((3, 4),), False)), [((3, 4),)])
        shape = from_rows(["#.#", ".#.", "...", "#.."])
        self.assertEqual(parts(shape), [((0, 0), (0, 2), (1, 1)), ((3, 0),)])
        # Two rows or columns apart, cells don't touch.
        self.assertEqual(parts((((0, 0), (0, 2), (2, 1)), False)), [((0, 0),), ((0, 2),), ((2, 1),)])
        # Parts stand by their least cells, whichever of their cells come first of all.
        shape = from_rows([".#.#", "#..#", "...."])
        self.assertEqual(parts(shape), [((0, 1), (1, 0)), ((0, 3), (1, 3))])
        self.assertEqual([len(part) for part in parts(SPIRAL)], [len(SPIRAL[0])])
        self.assertEqual([len(part) for part in parts(RINGS)], [32, 16, 1])

    def test_corners_alone_lead_on(self):
        for rise in (1, -1):
            chain = tuple(sorted((k, rise * k) for k in range(400)))
            self.assertEqual(parts((chain, False)), [chain])

    def test_far_from_the_middle(self):
        cells = tuple(sorted([(BOUND, BOUND), (BOUND - 1, BOUND - 1), (-BOUND, -BOUND), (-BOUND, BOUND)]))
        self.assertEqual(parts((cells, False)), [
            ((-BOUND, -BOUND),), ((-BOUND, BOUND),), ((BOUND - 1, BOUND - 1), (BOUND, BOUND)),
        ])

    def test_400_cells(self):
        for shape in full_shapes():
            self.assertEqual(len(shape[0]), 400)
            self.assertEqual(parts(shape), parts_in_shape(shape))

    def test_endless(self):
        for shape in (((), True), (((0, 0),), True)):
            self.assertRaises(Endless, parts, shape)


class PartOf(Asked):
    """8.1"""

    def test_of_each_cell(self):
        for shape in self.shapes[::2]:
            for part in parts_in_shape(shape):
                for cell in part:
                    told = part_of(shape, cell)
                    self.assertIs(type(told), tuple)
                    self.assertEqual(told, part)

    def test_no_cell(self):
        for shape in self.shapes[::3]:
            lacking = {plus(cell, step) for cell in shape[0] for step in AROUND} | set(FAR)
            for cell in sorted(lacking - set(shape[0])):
                self.assertRaises(NoCell, part_of, shape, cell)
        self.assertRaises(NoCell, part_of, EMPTY, (0, 0))

    def test_endless_first(self):
        self.assertRaises(Endless, part_of, (((0, 0),), True), (0, 0))
        self.assertRaises(Endless, part_of, (((0, 0),), True), (0, 1))


class Holes(Asked):
    """8.1"""

    def test_against_the_plain_reckoning(self):
        met = set()
        for shape in self.shapes:
            told = self.asked(shape)
            if told is not None:
                self.check_form(told)
                self.assertEqual(told, holes_in_shape(shape))
                met.add(len(told))
        self.assertGreater(len(met), 4)

    def asked(self, shape):
        rows = [cell[0] for cell in shape[0]] or [0]
        columns = [cell[1] for cell in shape[0]] or [0]
        if max(rows) - min(rows) < 40 and max(columns) - min(columns) < 40:
            return holes(shape)
        self.assertRaises(TooWide, holes, shape)
        return None

    def test_by_hand(self):
        self.assertEqual(holes(EMPTY), [])
        self.assertEqual(holes((((5, 5),), False)), [])
        # A hole of one cell, held by sides alone.
        self.assertEqual(holes(from_rows([".#.", "#.#", ".#."])), [((1, 1),)])
        self.assertEqual(holes(from_rows(["###", "#.#", "###"])), [((1, 1),)])
        self.assertEqual(holes(from_rows(["###", "#..", "###"])), [])
        # Corners alone lead on from no hole: neither to another one, nor to the outside.
        self.assertEqual(holes(from_rows(["####", "#.##", "##.#", "####"])), [((1, 1),), ((2, 2),)])
        self.assertEqual(holes(from_rows([".##", "#.#", "###"])), [((1, 1),)])
        self.assertEqual(holes(from_rows(["###.", "#.##", "##.#", ".###"])), [((1, 1),), ((2, 2),)])
        self.assertEqual(holes(from_rows(["####", "#..#", "####"])), [((1, 1), (1, 2))])

    def test_a_hole_with_a_part_in_it(self):
        told = holes(RINGS)
        self.assertEqual([len(hole) for hole in told], [24, 8])
        self.assertEqual(told[1], tuple((r, c) for r in (3, 4, 5) for c in (3, 4, 5) if (r, c) != (4, 4)))
        self.assertEqual(holes(SPIRAL), [])

    def test_a_part_that_touches_the_outside_by_a_corner_alone(self):
        shape = from_rows([".....", ".###.", ".#.#.", ".###.", "....#"])
        self.assertEqual(holes(shape), [((2, 2),)])
        inner = from_rows(["#####.", "#...#.", "#.#.#.", "#...#.", "#####.", ".....#"])
        self.assertEqual([len(hole) for hole in holes(inner)], [8])
        touching = from_rows(["####.", "#...#", "#.#.#", "#...#", ".###."])
        self.assertEqual(holes(touching), holes_in_shape(touching))
        self.assertEqual(len(holes(touching)), 1)

    def test_rising_by_their_least_cells(self):
        shape = from_rows(["#######", "#.#.#.#", "#.###.#", "#...#.#", "#######"])
        told = holes(shape)
        self.assertEqual([hole[0] for hole in told], [(1, 1), (1, 3), (1, 5)])

    def test_far_from_the_middle(self):
        ring = from_rows(["###", "#.#", "###"])
        for step in FAR:
            self.assertEqual(holes(moved_far(ring, step)), [(plus((1, 1), step),)])

    def test_too_wide_just_at_40(self):
        for cell in ((39, 0), (0, 39), (39, 39), (0, -39), (-39, 0)):
            shape = (tuple(sorted([(0, 0), cell])), False)
            self.assertEqual(holes(shape), [])
        for cell in ((40, 0), (0, 40), (40, 40), (0, -40), (-40, 0), (40, 39), (39, 40), (BOUND, 0), (0, BOUND)):
            shape = (tuple(sorted([(0, 0), cell])), False)
            self.assertRaises(TooWide, holes, shape)

    def test_the_span_is_looked_at_between_all_cells(self):
        ring = tuple(cell for cell in square(40, 40) if 0 in cell or 39 in cell)
        self.assertEqual([len(hole) for hole in holes((ring, False))], [38 * 38])
        for cell in ((-1, 20), (40, 20), (20, -1), (20, 40)):
            self.assertRaises(TooWide, holes, (tuple(sorted(ring + (cell,))), False))

    def test_endless_ahead_of_too_wide(self):
        self.assertRaises(Endless, holes, (((0, 0), (0, 40)), True))
        self.assertRaises(Endless, holes, ((), True))
        self.assertRaises(Endless, holes, (((0, 0),), True))

    def test_400_cells(self):
        met = set()
        for shape in full_shapes():
            told = holes(shape)
            self.assertEqual(told, holes_in_shape(shape))
            met.add(len(told) > 0)
        self.assertEqual(met, {True, False})


class Surplus(Asked):
    """8.2"""

    def test_parts_less_holes(self):
        met = set()
        for shape in self.shapes + full_shapes():
            rows = [cell[0] for cell in shape[0]] or [0]
            if max(rows) - min(rows) > 100:
                continue
            told = surplus(shape)
            self.assertIs(type(told), int)
            self.assertEqual(told, len(parts_in_shape(shape)) - len(holes_in_shape(shape)))
            met.add(told)
        self.assertTrue({-1, 0, 1, 2, 3} <= met)

    def test_by_squares(self):
        for shape in self.shapes[:120]:
            ones = threes = slanted = 0
            corners = {plus(cell, (r, c)) for cell in shape[0] for r in (-1, 0) for c in (-1, 0)}
            for corner in corners:
                four = [holds(shape, plus(corner, step)) for step in square(2, 2)]
                ones += four.count(True) == 1
                threes += four.count(True) == 3
                slanted += four in ([True, False, False, True], [False, True, True, False])
            self.assertEqual(4 * surplus(shape), ones - threes - 2 * slanted)

    def test_by_hand(self):
        for rows, asked in [
            ([], 0), (["#"], 1), (["#.#"], 2), (["#.", ".#"], 1), ([".#.", "#.#", ".#."], 0),
            (["###", "#.#", "###"], 0), (["#####", "#.#.#", "#####"], -1), (["##", "##"], 1), ([".#", "#."], 1),
            (["##", "#."], 1),
        ]:
            self.assertEqual(surplus(from_rows(rows)), asked, rows)
        self.assertEqual(surplus(RINGS), 1)
        self.assertEqual(surplus(SPIRAL), 1)

    def test_of_shapes_that_are_too_wide_for_holes(self):
        ring = from_rows(["###", "#.#", "###"])
        cells = [cell for step in FAR for cell in moved_far(ring, step)[0]]
        self.assertEqual(surplus((tuple(sorted(cells)), False)), 0)
        cells += [(500, 500), (-900, 7)]
        self.assertEqual(surplus((tuple(sorted(cells)), False)), 2)
        self.assertEqual(surplus((tuple((7 * k, k * k) for k in range(400)), False)), 400)
        wide = tuple(sorted({(r, c) for r in (0, 2) for c in range(120)} | {(1, c) for c in range(0, 120, 7)}))
        self.assertEqual(surplus((wide, False)), 1 - 17)

    def test_endless(self):
        for shape in (((), True), (((0, 0),), True)):
            self.assertRaises(Endless, surplus, shape)


class Handed(Asked):
    """0.2"""

    def test_lists_are_ones_own_and_shapes_stay(self):
        shapes = [RINGS, SPIRAL, from_rows(["###", "#.#", "###"])]
        kept = copy.deepcopy(shapes)
        for shape in shapes:
            check_own(self, lambda: parts(shape))
        check_own(self, lambda: holes(RINGS))
        for shape in shapes:
            self.assertEqual(surplus(shape), surplus(shape))
        self.assertEqual(holes(EMPTY), [])
        holes(EMPTY).append(None)
        self.assertEqual(holes(EMPTY), [])
        self.assertIsNot(holes(EMPTY), holes(EMPTY))
        self.assertEqual(shapes, kept)

    def test_400_cells_are_answered_soon(self):
        for shape in full_shapes():
            last = random.Random(146).choice(shape[0])
            check_quick(self, [
                lambda: parts(shape), lambda: holes(shape), lambda: surplus(shape), lambda: part_of(shape, last),
            ])


if __name__ == "__main__":
    unittest.main()
