import copy
import unittest

from edgemoss.errors import Endless, TooWide
from edgemoss.nests import held_by, lies_in, nest
from edgemoss.shapes import moved
from edgemoss.thinning import left_by, thinned
from edgemoss.turns import turned
from plain import (
    BOUND, RINGS, SPIRAL, check_own, check_quick, from_rows, full_shapes, holes_in_shape, is_rising, parts_in_shape,
    plus, regions_in, some_blots, square,
)

EMPTY = ((), False)
ONE = (((0, 0),), False)
RING = from_rows(["###", "#.#", "###"])
# Three rings in one another, the innermost one about a dot; a ring beside them with two dots in it.
BOTH_SIDES = from_rows([
    "############.#######",
    "#..........#.#.....#",
    "#.########.#.#.#.#.#",
    "#.#......#.#.#.....#",
    "#.#.####.#.#.#######",
    "#.#.#..#.#.#........",
    "#.#.#..#.#.#.#......",
    "#.#.####.#.#........",
    "#.#......#.#..##.##.",
    "#.########.#..#.#.#.",
    "#..........#..##.##.",
    "############........",
])


def plain_lies_in(shape):
    """9.6 word by word."""
    outer, inner = regions_in(shape) if shape[0] else ((), [])
    told = []
    for part in parts_in_shape(shape):
        above = plus(min(part), (-1, 0))
        homes = [k for k, hole in enumerate(inner) if above in hole] + [None] * (above in outer)
        assert len(homes) == 1
        told.append(homes[0])
    return told


def plain_held_by(shape):
    told = []
    for hole in holes_in_shape(shape):
        homes = [k for k, part in enumerate(parts_in_shape(shape)) if plus(min(hole), (-1, 0)) in part]
        assert len(homes) == 1
        told.append(homes[0])
    return told


def plain_nest(shape):
    """9.7 word by word."""
    lies, held = plain_lies_in(shape), plain_held_by(shape)

    def part_form(k):
        return tuple(sorted(hole_form(h) for h, home in enumerate(held) if home == k))

    def hole_form(h):
        return tuple(sorted(part_form(k) for k, home in enumerate(lies) if home == h))

    return hole_form(None)


class Asked(unittest.TestCase):

    def setUp(self):
        self.shapes = [EMPTY, ONE, RING, RINGS, SPIRAL, BOTH_SIDES] + some_blots(171, 80, 6, 6)
        self.shapes += some_blots(172, 40, 9, 9) + some_blots(173, 10, top=-BOUND, left=BOUND - 4)


class LiesIn(Asked):
    """9.6"""

    def test_against_the_plain_reckoning(self):
        met = set()
        for shape in self.shapes:
            told, held = lies_in(shape), held_by(shape)
            self.assertIs(type(told), list)
            self.assertIs(type(held), list)
            self.assertEqual(told, plain_lies_in(shape))
            self.assertEqual(held, plain_held_by(shape))
            self.assertTrue(all(type(k) is int for k in held))
            met |= set(told) | {("held", k) for k in held}
        self.assertTrue({None, 0, 1, ("held", 0), ("held", 1)} <= met)

    def test_by_hand(self):
        self.assertEqual((lies_in(EMPTY), held_by(EMPTY)), ([], []))
        self.assertEqual((lies_in(ONE), held_by(ONE)), ([None], []))
        self.assertEqual((lies_in(RING), held_by(RING)), ([None], [0]))
        self.assertEqual((lies_in(RINGS), held_by(RINGS)), ([None, 0, 1], [0, 1]))
        self.assertEqual((lies_in(SPIRAL), held_by(SPIRAL)), ([None], []))
        self.assertEqual(lies_in(BOTH_SIDES), [None, None, 0, 1, 1, 2, None, None])
        self.assertEqual(held_by(BOTH_SIDES), [0, 1, 2, 5, 7, 7])

    def test_in_the_order_of_parts_and_holes(self):
        shape = from_rows(["...#####", "#..#...#", "...#.#.#", "...#...#", "###.####", "#.#.....", "###....."])
        self.assertEqual(lies_in(shape), [None, None, 0])
        self.assertEqual(held_by(shape), [0, 0])

    def test_a_part_that_touches_a_hole_at_a_corner_alone(self):
        """The dot beyond the ring's corner touches the hole by no side, and the ring by a corner."""
        shape = from_rows([".##.", "#..#", "#..#", ".##."])
        self.assertEqual((lies_in(shape), held_by(shape)), ([None], [0]))
        shape = from_rows(["#####", "#...#", "#.#.#", "#..#.", "####."])
        self.assertEqual((lies_in(shape), held_by(shape)), ([None], [0]))
        shape = from_rows([".##.....", "#..#....", "#...#...", ".#...#..", "..#.#.#.", "...#..#.", "....##.."])
        self.assertEqual(lies_in(shape), plain_lies_in(shape))
        self.assertEqual(held_by(shape), plain_held_by(shape))

    def test_two_holes_at_a_corner(self):
        shape = from_rows(["####", "#.##", "##.#", "####"])
        self.assertEqual((lies_in(shape), held_by(shape)), ([None], [0, 0]))


class Nest(Asked):
    """9.7"""

    def test_by_hand(self):
        for rows, asked in [
            ([], ()), (["#"], ((),)), (["###", "#.#", "###"], (((),),)), (["#.#"], ((), ())),
            (["#####", "#.#.#", "#####"], (((), ()),)), (["###.#", "#.#..", "###.."], ((), ((),))),
            (["#.###", "..#.#", "..###"], ((), ((),))),
            (["#####", "#...#", "#.#.#", "#...#", "#####"], ((((),),),)),
            ([".#.", "#.#", ".#."], (((),),)),
        ]:
            self.assertEqual(nest(from_rows(rows)), asked, rows)
        self.assertEqual(nest(SPIRAL), ((),))
        self.assertEqual(nest(RINGS), ((((((),),),),),))
        self.assertEqual(nest((square(7, 9), False)), ((),))

    def test_like_forms_side_by_side_and_sorted(self):
        told = nest(BOTH_SIDES)
        two_dots = (((), ()),)
        rings = ((((((),),),),),)
        two_holes = ((), ())
        self.assertEqual(told, tuple(sorted([two_dots, rings, (), two_holes])))
        self.assertTrue(all(told[k] <= told[k + 1] for k in range(3)))
        dots = from_rows(["#.#.#", ".....", "#.###", "..#.#", "#.###"])
        self.assertEqual(nest(dots), ((), (), (), (), (), ((),)))

    def test_against_the_plain_reckoning(self):
        met = set()
        for shape in self.shapes + full_shapes():
            told = nest(shape)
            self.assertEqual(told, plain_nest(shape))
            self.check_sorted(told)
            met.add(told)
        self.assertGreater(len(met), 25)

    def check_sorted(self, form):
        self.assertIs(type(form), tuple)
        self.assertEqual(list(form), sorted(form))
        for inner in form:
            self.check_sorted(inner)

    def test_turned_moved_and_thinned(self):
        for shape in self.shapes[:60]:
            told = nest(shape)
            for turn in range(8):
                self.assertEqual(nest(turned(shape, turn)), told)
            for step in ((3, -8), (-10 ** 12, 10 ** 11)):
                self.assertEqual(nest(moved(shape, step)), told)
            for kept in ([], shape[0][::3], shape[0]):
                self.assertEqual(nest(left_by(shape, thinned(shape, kept))), told)

    def test_other_shapes_have_other_nests(self):
        rows = [["#"], ["#.#"], ["###", "#.#", "###"], ["#####", "#.#.#", "#####"], ["###.#", "#.#..", "###.."]]
        rows.append(["#####", "#...#", "#.#.#", "#...#", "#####"])
        self.assertEqual(len({nest(from_rows(some)) for some in rows}), len(rows))


class Refused(Asked):
    """9.1"""

    def test_endless_then_too_wide(self):
        for ask in (nest, lies_in, held_by):
            self.assertRaises(Endless, ask, ((), True))
            self.assertRaises(Endless, ask, (((0, 0),), True))
            self.assertRaises(Endless, ask, (((0, 0), (0, 40)), True))
            for cell in ((0, 40), (40, 0), (40, 39), (BOUND, 0)):
                self.assertRaises(TooWide, ask, (((0, 0), cell), False))

    def test_just_39(self):
        for cell in ((0, 39), (39, 0), (39, 39)):
            shape = (((0, 0), cell), False)
            self.assertEqual(nest(shape), ((), ()))
            self.assertEqual(lies_in(shape), [None, None])
            self.assertEqual(held_by(shape), [])


class Handed(Asked):
    """0.2"""

    def test_lists_are_ones_own_and_shapes_stay(self):
        shapes = [RINGS, BOTH_SIDES]
        kept = copy.deepcopy(shapes)
        for shape in shapes:
            check_own(self, lambda: lies_in(shape))
            check_own(self, lambda: held_by(shape))
            self.assertEqual(nest(shape), nest(shape))
        self.assertEqual(shapes, kept)
        self.assertTrue(is_rising(BOTH_SIDES[0]))

    def test_400_cells_are_answered_soon(self):
        for shape in full_shapes():
            check_quick(self, [lambda: nest(shape), lambda: lies_in(shape), lambda: held_by(shape)])


if __name__ == "__main__":
    unittest.main()
