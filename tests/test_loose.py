import copy
import random
import unittest

from edgemoss.errors import Endless, NoCell
from edgemoss.loose import is_loose, loose_cells, may_come, why_loose
from plain import (
    AROUND, BOUND, FAR, RINGS, SIDES, SPIRAL, check_own, check_quick, from_rows, full_shapes, grouped, holds,
    is_loose_in, one_to_one, plus, sets_within, some_blots, some_shapes, square, without,
)


def plain_why(shape, cell):
    """8.3 word by word; of a loose cell, its neighbours rising in the place of a chain."""
    near = [plus(cell, step) for step in AROUND if holds(shape, plus(cell, step))]
    lacking = [plus(cell, step) for step in SIDES if not holds(shape, plus(cell, step))]
    together = grouped(near, AROUND)
    words = []
    if not near:
        words.append(("alone",))
    if not lacking:
        words.append(("inner",))
    if len(together) > 1:
        words.append(("bridge", [some for some in together if min(near) in some][0]))
    if len(together) == 1 and lacking:
        words.append(("loose", near, min(lacking)))
    assert len(words) == 1
    return words[0]


def all_surroundings(cell):
    """A finite shape and one with the rest for each of the 256 ways; each has the cell."""
    for some in sets_within(AROUND):
        there = [plus(cell, step) for step in some]
        lacking = [plus(cell, step) for step in AROUND if step not in some]
        yield (tuple(sorted(there + [cell])), False)
        yield (tuple(sorted(lacking)), True)


class Asked(unittest.TestCase):

    def check_paper(self, shape, cell):
        told = why_loose(shape, cell)
        asked = plain_why(shape, cell)
        self.assertIs(type(told), tuple)
        self.assertIs(is_loose(shape, cell), asked[0] == "loose")
        self.assertIs(is_loose_in(shape, cell), asked[0] == "loose")
        if asked[0] != "loose":
            self.assertEqual(told, asked)
            return told[0]
        self.assertEqual((told[0], told[2], len(told)), (asked[0], asked[2], 3))
        chain = told[1]
        self.assertIs(type(chain), list)
        self.assertEqual(sorted(chain), asked[1])
        for place in range(1, len(chain)):
            ahead = [plus(chain[place], step) for step in AROUND]
            self.assertTrue(set(ahead) & set(chain[:place]))
        return told[0]


class WhyLoose(Asked):
    """8.3"""

    def test_each_of_the_256_ways(self):
        for cell in ((0, 0), (-3, 7), (BOUND, -BOUND)):
            met = {}
            for shape in all_surroundings(cell):
                word = self.check_paper(shape, cell)
                met[word, shape[1]] = met.get((word, shape[1]), 0) + 1
            for rest in (False, True):
                self.assertEqual(sum(met[key] for key in met if key[1] == rest), 256)
                self.assertEqual((met["alone", rest], met["inner", rest]), (1, 16))
                self.assertEqual(met["bridge", rest] + met["loose", rest], 239)

    def test_each_cell_of_shapes(self):
        shapes = some_blots(151, 40) + some_shapes(152, 40, most=20, span=2) + [RINGS, SPIRAL]
        for shape in shapes:
            cells = set(shape[0]) | {plus(cell, step) for cell in shape[0] for step in AROUND} | set(FAR)
            for cell in sorted(cells):
                if holds(shape, cell):
                    self.check_paper(shape, cell)

    def test_by_hand(self):
        self.assertEqual(why_loose((((2, 3),), False), (2, 3)), ("alone",))
        self.assertEqual(why_loose(((), True), (2, 3)), ("inner",))
        self.assertEqual(why_loose((((0, 0),), True), (0, 1))[::2], ("loose", (0, 0)))
        cross = from_rows([".#.", "###", ".#."])
        self.assertEqual(why_loose(cross, (1, 1)), ("inner",))
        slant = from_rows(["#..", ".#.", "..#"])
        self.assertEqual(why_loose(slant, (1, 1)), ("bridge", ((0, 0),)))
        self.assertEqual(why_loose(slant, (0, 0)), ("loose", [(1, 1)], (-1, 0)))
        two = from_rows(["##.", ".#.", "#.."])
        self.assertEqual(why_loose(two, (1, 1)), ("bridge", ((0, 0), (0, 1))))
        three = from_rows(["#.#", ".#.", "#.#"])
        self.assertEqual(why_loose(three, (1, 1)), ("bridge", ((0, 0),)))
        corner = from_rows(["##", "##"])
        told = why_loose(corner, (0, 0))
        self.assertEqual((sorted(told[1]), told[2]), ([(0, 1), (1, 0), (1, 1)], (-1, 0)))
        # Held by three sides alone, it lacks the fourth one.
        self.assertEqual(why_loose(from_rows(["###", "###", "..."]), (1, 1))[2], (2, 1))
        # A ring of eight has no cell within, one of its cells hangs on both sides.
        ring = from_rows(["###", "#.#", "###"])
        self.assertEqual(why_loose(ring, (0, 1)), ("bridge", ((0, 0), (1, 0))))

    def test_corners_of_a_ring(self):
        """The two neighbours of a ring's corner touch each other."""
        ring = from_rows(["###", "#.#", "###"])
        told = why_loose(ring, (0, 0))
        self.assertEqual((told[0], sorted(told[1]), told[2]), ("loose", [(0, 1), (1, 0)], (-1, 0)))

    def test_no_cell(self):
        for ask in (is_loose, why_loose):
            self.assertRaises(NoCell, ask, ((), False), (0, 0))
            self.assertRaises(NoCell, ask, (((0, 0),), False), (0, 1))
            self.assertRaises(NoCell, ask, (((0, 0),), True), (0, 0))
            self.assertRaises(NoCell, ask, (square(2, 2), False), (BOUND, BOUND))


class MayCome(Asked):
    """8.4"""

    def test_where_it_is_loose_with_it(self):
        met = {True: 0, False: 0}
        for cell in ((0, 0), (5, -8)):
            for shape in all_surroundings(cell):
                cells = [other for other in shape[0] if other != cell] + [cell] * shape[1]
                lacks = (tuple(sorted(cells)), shape[1])
                told = may_come(lacks, cell)
                self.assertIs(told, is_loose(shape, cell))
                met[told] += 1
        self.assertGreater(min(met.values()), 200)

    def test_by_hand(self):
        self.assertIs(may_come(((), False), (0, 0)), False)
        self.assertIs(may_come((((0, 1),), False), (0, 0)), True)
        self.assertIs(may_come((((0, 0),), True), (0, 0)), False)
        self.assertIs(may_come((((0, 0), (0, 1)), True), (0, 0)), True)
        self.assertIs(may_come((((0, 0), (0, 2)), False), (0, 1)), False)

    def test_no_cell_where_the_shape_has_it(self):
        self.assertRaises(NoCell, may_come, (((0, 0),), False), (0, 0))
        self.assertRaises(NoCell, may_come, ((), True), (0, 0))
        self.assertRaises(NoCell, may_come, (((0, 0),), True), (BOUND, BOUND))


class LooseCells(Asked):

    def test_against_the_plain_reckoning(self):
        shapes = some_blots(153, 80) + some_blots(154, 10, 9, 9) + [RINGS, SPIRAL, ((), False), (((4, 4),), False)]
        for shape in shapes + full_shapes():
            told = loose_cells(shape)
            self.assertIs(type(told), list)
            if len(shape[0]) < 400:
                self.assertEqual(told, [cell for cell in shape[0] if is_loose_in(shape, cell)])
            else:
                there = {cell: True for cell in shape[0]}
                near = {cell: [plus(cell, s) for s in AROUND if plus(cell, s) in there] for cell in there}
                asked = [cell for cell in shape[0] if is_loose_in((tuple(near[cell]), False), cell)]
                self.assertEqual(told, asked)

    def test_by_hand(self):
        self.assertEqual(loose_cells(((), False)), [])
        self.assertEqual(loose_cells((((0, 0),), False)), [])
        self.assertEqual(loose_cells((((0, 0), (0, 1), (0, 2)), False)), [(0, 0), (0, 2)])
        self.assertEqual(loose_cells((square(3, 3), False)), [cell for cell in square(3, 3) if cell != (1, 1)])
        self.assertEqual(loose_cells(SPIRAL)[:1], [(0, 0)])

    def test_endless(self):
        self.assertRaises(Endless, loose_cells, ((), True))
        self.assertRaises(Endless, loose_cells, (((0, 0),), True))


class TakenOut(Asked):
    """8.4"""

    def test_a_loose_cell_leaves_parts_and_holes_one_to_one_and_no_other_does(self):
        met = {}
        shapes = [shape for shape in all_surroundings((1, 1)) if not shape[1]]
        shapes += some_blots(155, 150, 5, 5) + some_blots(156, 60, 4, 7) + [RINGS]
        for shape in shapes:
            for cell in shape[0]:
                word = why_loose(shape, cell)[0]
                self.assertEqual(one_to_one(shape, without(shape, cell)), word == "loose")
                met[word] = met.get(word, 0) + 1
        self.assertEqual(len(met), 4)
        self.assertGreater(min(met.values()), 15)

    def test_each_shape_of_three_rows(self):
        for some in sets_within(square(3, 4))[::13]:
            shape = (some, False)
            for cell in some:
                self.assertEqual(one_to_one(shape, without(shape, cell)), is_loose(shape, cell))

    def test_put_back(self):
        dice = random.Random(157)
        for shape in some_blots(158, 60):
            lacking = [(r, c) for r in range(-1, 6) for c in range(-1, 6) if not holds(shape, (r, c))]
            for cell in dice.sample(lacking, min(5, len(lacking))):
                back = (tuple(sorted(shape[0] + (cell,))), False)
                self.assertEqual(may_come(shape, cell), one_to_one(back, shape))


class Handed(Asked):
    """0.2"""

    def test_lists_are_ones_own_and_shapes_stay(self):
        shapes = [SPIRAL, (square(3, 3), False)]
        kept = copy.deepcopy(shapes)
        for shape in shapes:
            check_own(self, lambda: loose_cells(shape))
            check_own(self, lambda: why_loose(shape, (0, 0))[1])
            self.assertEqual(why_loose(shape, (0, 0)), why_loose(shape, (0, 0)))
        self.assertEqual(shapes, kept)

    def test_400_cells_are_answered_soon(self):
        for shape in full_shapes():
            cell = shape[0][200]
            check_quick(self, [
                lambda: loose_cells(shape), lambda: is_loose(shape, cell), lambda: why_loose(shape, cell),
                lambda: may_come(shape, (100, 100)), lambda: is_loose((shape[0], True), (100, 100)),
            ])


if __name__ == "__main__":
    unittest.main()
