import copy
import itertools
import random
import unittest

from edgemoss.errors import Endless, NoMarks, TooMany
from edgemoss.growing import eaten, grown
from edgemoss.marks import fewer_paper, fewer_right, fewest, marks, sure
from plain import (
    BOUND, in_opened, is_cell, is_rising, lies_whole, minus, plus, some_cells, some_pieces, some_shapes, square,
)

EMPTY = ((), False)
PAIR = ((0, 0), (0, 1))


def line(many, row=0):
    return tuple((row, k) for k in range(many))


def laid(piece, place):
    return {plus(step, place) for step in piece}


def all_laid(piece, places):
    return set().union(*[laid(piece, place) for place in places])


def greatest(shape, piece):
    places = [minus(cell, piece[0]) for cell in shape[0]]
    return sorted(place for place in places if lies_whole(shape, piece, place))


def fewest_many(shape, piece):
    """By going through all sets of places, from the smallest on."""
    places = greatest(shape, piece)
    for many in range(len(places) + 1):
        for some in itertools.combinations(places, many):
            if all_laid(piece, some) == set(shape[0]):
                return many
    return None


def tree_is_right(shape, piece, many, taken, tree):
    """3.6 word by word."""
    cell, cases = tree
    if cell not in shape[0] or cell in all_laid(piece, taken):
        return False
    if many == 0:
        return cases == []
    asked = [place for place in greatest(shape, piece) if cell in laid(piece, place)]
    if [mark for mark, _ in cases] != asked:
        return False
    return all(tree_is_right(shape, piece, many - 1, taken + [mark], inner) for mark, inner in cases)


def some_tree(dice, shape, piece, many, taken=()):
    """A right tree with a chance choice of cells, where there is one."""
    cell = dice.choice(sorted(set(shape[0]) - all_laid(piece, taken)))
    if many == 0:
        return (cell, [])
    holding = [place for place in greatest(shape, piece) if cell in laid(piece, place)]
    return (cell, [(mark, some_tree(dice, shape, piece, many - 1, taken + (mark,))) for mark in holding])


def spoilt_trees(tree, others):
    """Trees like this one but for one thing, at each place of it."""
    cell, cases = tree
    for other in others:
        yield (other, cases)
    yield (plus(cell, (0, 1)), cases)
    yield (cell, cases + [((0, 0), (cell, []))])
    yield (cell, [])
    if len(cases) > 1:
        yield (cell, [cases[1], cases[0]] + cases[2:])
    for k, (mark, inner) in enumerate(cases):
        yield (cell, cases[:k] + cases[k + 1:])
        yield (cell, cases[:k + 1] + cases[k:])
        yield (cell, cases + [cases[k]])
        yield (cell, cases[:k] + [(plus(mark, (0, 1)), inner)] + cases[k + 1:])
        yield (cell, cases[:k] + [((10 ** 30, 0), inner)] + cases[k + 1:])
        for spoilt in spoilt_trees(inner, others):
            yield (cell, cases[:k] + [(mark, spoilt)] + cases[k + 1:])


def lists_in(tree):
    """All lists within a tree, however deep."""
    return [tree[1]] + [inner for _, case in tree[1] for inner in lists_in(case)]


def marked_shapes(seed, many, most_marks=7, least=0):
    """Shapes that have marks, with the piece that they were grown by."""
    dice = random.Random(seed)
    told = []
    while len(told) < many:
        # Blocks overlap one another, so that there are marks that can be spared.
        piece = dice.choice([PAIR, square(2, 2), line(3), some_cells(dice, dice.randint(1, 5), dice.choice([1, 2]))])
        shape = grown((some_cells(dice, dice.randint(least, most_marks), dice.choice([1, 2, 3])), False), piece)
        if len(greatest(shape, piece)) <= 10:
            told.append((shape, piece))
    return told


class Marks(unittest.TestCase):
    """3.4"""

    def test_both_forms_against_the_plain_reckoning(self):
        shapes = [shape for shape in some_shapes(61, 80, most=16, span=2) if not shape[1]]
        seen = []
        for shape, piece in itertools.product(shapes, some_pieces(62, 14, most=3, span=1)):
            told = marks(shape, piece)
            going = [cell for cell in shape[0] if not in_opened(shape, piece, cell)]
            if going:
                self.assertEqual(told, ("bare", min(going)))
            else:
                self.assertEqual(told, ("marks", tuple(greatest(shape, piece))))
                self.assertEqual(grown((told[1], False), piece), shape)
            seen.append(told[0])
        self.assertGreater(min(seen.count("bare"), seen.count("marks")), 50)

    def test_of_grown_shapes(self):
        for shape, piece in marked_shapes(63, 150):
            told = marks(shape, piece)
            self.assertEqual(told, ("marks", tuple(greatest(shape, piece))))
            self.assertEqual(told[1], eaten(shape, piece)[0])

    def test_the_empty_shape(self):
        for piece in some_pieces(64, 10):
            self.assertEqual(marks(EMPTY, piece), ("marks", ()))

    def test_by_hand(self):
        self.assertEqual(marks((line(3), False), PAIR), ("marks", ((0, 0), (0, 1))))
        self.assertEqual(marks((((0, 0), (0, 1), (2, 2)), False), PAIR), ("bare", (2, 2)))
        self.assertEqual(marks((((-4, 4), (0, 0), (0, 1), (2, 2)), False), PAIR), ("bare", (-4, 4)))
        self.assertEqual(marks((square(20, 20), False), square(3, 4)), ("marks", square(18, 17)))

    def test_at_the_bound(self):
        b = BOUND
        shape = (((b, b),), False)
        self.assertEqual(marks(shape, ((-1, -1),)), ("marks", ((b + 1, b + 1),)))
        self.assertEqual(fewest(shape, ((-1, -1),)), ((b + 1, b + 1),))
        self.assertEqual(sure(shape, ((-1, -1),)), [((b + 1, b + 1), (b, b))])


class Sure(unittest.TestCase):
    """3.5"""

    def test_against_all_marks(self):
        unsure = 0
        for shape, piece in marked_shapes(65, 200):
            told = sure(shape, piece)
            places = greatest(shape, piece)
            asked = []
            for mark in places:
                rest = [place for place in places if place != mark]
                alone = laid(piece, mark) - all_laid(piece, rest)
                # A mark without which the others still make the shape is lacking in some marks of it.
                self.assertEqual(bool(alone), all_laid(piece, rest) != set(shape[0]))
                if alone:
                    asked.append((mark, min(alone)))
            self.assertEqual(told, asked)
            self.assertIs(type(told), list)
            self.assertTrue(all(type(row) is tuple and is_cell(row[0]) and is_cell(row[1]) for row in told))
            unsure += len(places) - len(told)
        self.assertGreater(unsure, 50)

    def test_by_hand(self):
        self.assertEqual(sure((line(4), False), PAIR), [((0, 0), (0, 0)), ((0, 2), (0, 3))])
        self.assertEqual(sure(EMPTY, PAIR), [])

    def test_the_least_cell(self):
        self.assertEqual(sure((square(2, 3), False), square(2, 3)), [((0, 0), (0, 0))])
        self.assertEqual(sure((line(5), False), line(3)), [((0, 0), (0, 0)), ((0, 2), (0, 4))])

    def test_more_than_12_greatest_marks_are_no_matter(self):
        self.assertEqual(len(sure((square(20, 20), False), ((0, 0),))), 400)
        self.assertEqual(len(sure((square(20, 20), False), square(3, 4))), 4)

    def test_no_marks(self):
        for shape in [(((0, 0),), False), (((0, 0), (0, 1), (5, 5)), False)]:
            with self.assertRaises(NoMarks):
                sure(shape, PAIR)


class Fewest(unittest.TestCase):
    """3.6"""

    def test_as_few_as_any(self):
        fewer = 0
        for shape, piece in marked_shapes(66, 150) + marked_shapes(67, 60, most_marks=10, least=6):
            told = fewest(shape, piece)
            self.assertTrue(type(told) is tuple and all(map(is_cell, told)) and is_rising(told))
            self.assertEqual(all_laid(piece, told), set(shape[0]))
            self.assertEqual(len(told), fewest_many(shape, piece))
            fewer += len(told) < len(greatest(shape, piece))
        self.assertGreater(fewer, 20)

    def test_blocks(self):
        for rows, columns in itertools.product(range(2, 5), repeat=2):
            shape, piece = (square(rows, columns), False), square(2, 2)
            self.assertEqual(len(fewest(shape, piece)), (rows + 1) // 2 * ((columns + 1) // 2))

    def test_no_cell(self):
        for piece in some_pieces(68, 10):
            self.assertEqual(fewest(EMPTY, piece), ())
            self.assertIsNone(fewer_paper(EMPTY, piece))

    def test_the_paper_is_right_for_one_less(self):
        for shape, piece in marked_shapes(69, 150, least=1) + [((square(3, 4), False), square(2, 2))]:
            many = len(fewest(shape, piece))
            tree = fewer_paper(shape, piece)
            self.assertTrue(tree_is_right(shape, piece, many - 1, [], tree))
            self.assertIs(fewer_right(shape, piece, many - 1, tree), True)
            for other in range(13):
                self.assertIs(fewer_right(shape, piece, other, tree), tree_is_right(shape, piece, other, [], tree))

    def test_other_right_trees(self):
        dice = random.Random(70)
        unlike = 0
        for shape, piece in marked_shapes(71, 100, most_marks=6, least=1):
            for many in range(fewest_many(shape, piece)):
                tree = some_tree(dice, shape, piece, many)
                self.assertIs(fewer_right(shape, piece, many, tree), True)
                unlike += tree != fewer_paper(shape, piece)
        self.assertGreater(unlike, 50)

    def test_no_tree_is_right_where_so_many_are_enough(self):
        for shape, piece in marked_shapes(72, 60, most_marks=5, least=1):
            few = fewest(shape, piece)
            tree = fewer_paper(shape, piece)
            for many in range(len(few), 13):
                self.assertIs(fewer_right(shape, piece, many, tree), False)
                for cell in shape[0]:
                    self.assertIs(fewer_right(shape, piece, many, (cell, [])), False)

    def test_spoilt_trees(self):
        wrong, right = 0, 0
        dice = random.Random(73)
        for shape, piece in marked_shapes(74, 50, most_marks=5, least=2) + [((line(6), False), PAIR)]:
            many = fewest_many(shape, piece) - 1
            others = [shape[0][0], shape[0][-1], (77, 77), (10 ** 30, -10 ** 30)]
            for tree in (fewer_paper(shape, piece), some_tree(dice, shape, piece, many)):
                for spoilt in spoilt_trees(tree, others):
                    asked = tree_is_right(shape, piece, many, [], spoilt)
                    self.assertIs(fewer_right(shape, piece, many, spoilt), asked, (shape, piece, many, spoilt))
                    wrong += not asked
                    right += asked
        # Some trees stay right, as where a cell that is not yet held takes another one's place at the last.
        self.assertGreater(wrong, 1000)
        self.assertGreater(right, 50)

    def test_cases_where_there_are_none(self):
        shape = (line(2), False)
        self.assertIs(fewer_right(shape, PAIR, 0, ((0, 0), [])), True)
        self.assertIs(fewer_right(shape, PAIR, 0, ((0, 1), [])), True)
        self.assertIs(fewer_right(shape, PAIR, 0, ((0, 2), [])), False)
        self.assertIs(fewer_right(shape, PAIR, 0, ((0, 0), [((0, 0), ((0, 1), []))])), False)
        self.assertIs(fewer_right(shape, PAIR, 1, ((0, 0), [((0, 0), ((0, 1), []))])), False)
        self.assertIs(fewer_right(EMPTY, PAIR, 0, ((0, 0), [])), False)

    def test_by_hand(self):
        shape = (line(4), False)
        tree = ((0, 0), [((0, 0), ((0, 2), []))])
        self.assertIs(fewer_right(shape, PAIR, 1, tree), True)
        self.assertIs(fewer_right(shape, PAIR, 0, tree), False)
        self.assertIs(fewer_right(shape, PAIR, 2, tree), False)
        taken = ((0, 0), [((0, 0), ((0, 1), []))])
        self.assertIs(fewer_right(shape, PAIR, 1, taken), False)
        two = ((0, 1), [((0, 0), ((0, 3), [])), ((0, 1), ((0, 0), []))])
        self.assertIs(fewer_right(shape, PAIR, 1, two), True)
        self.assertIs(fewer_right(shape, PAIR, 1, (two[0], two[1][::-1])), False)
        self.assertIs(fewer_right(shape, PAIR, 1, (two[0], two[1][:1])), False)
        self.assertIs(fewer_right(shape, PAIR, 1, (two[0], two[1] + two[1][1:])), False)

    def test_of_a_shape_without_marks(self):
        shape = (((0, 0), (0, 1), (5, 5)), False)
        for many in range(13):
            self.assertIs(fewer_right(shape, PAIR, many, ((5, 5), [])), True)
            self.assertIs(fewer_right(shape, PAIR, many, ((0, 0), [])), many == 0)
        self.assertIs(fewer_right(shape, PAIR, 1, ((0, 0), [((0, 0), ((5, 5), []))])), True)
        self.assertIs(fewer_right(shape, PAIR, 2, ((0, 0), [((0, 0), ((5, 5), []))])), True)

    def test_12_deep(self):
        shape = (line(13), False)
        tree = ((0, 12), [])
        for k in range(11, -1, -1):
            tree = ((0, k), [((0, k), tree)])
        self.assertIs(fewer_right(shape, ((0, 0),), 12, tree), True)
        self.assertIs(fewer_right((line(12), False), ((0, 0),), 12, tree), False)

    def test_just_12_greatest_marks_and_13(self):
        for piece, shape in [
            (((0, 0),), (line(12), False)), (((4, 4),), (line(12), False)), (PAIR, (line(13), False)),
            (square(2, 2), (square(4, 5), False)), (line(12), (line(23), False)),
        ]:
            self.assertEqual(len(greatest(shape, piece)), 12)
            told = fewest(shape, piece)
            self.assertEqual(all_laid(piece, told), set(shape[0]))
            self.assertEqual(len(told), fewest_many(shape, piece))
            self.assertIs(fewer_right(shape, piece, len(told) - 1, fewer_paper(shape, piece)), True)
        for piece, shape in [
            (((0, 0),), (line(13), False)), (PAIR, (line(14), False)), (((0, 0),), (square(20, 20), False)),
            (line(12), (line(24), False)),
        ]:
            for asked in (fewest, fewer_paper):
                with self.assertRaises(TooMany):
                    asked(shape, piece)

    def test_12_scattered_marks(self):
        dice = random.Random(75)
        met = 0
        while met < 20:
            piece = some_cells(dice, 4, 2)
            shape = grown((some_cells(dice, 12, 3), False), piece)
            if len(greatest(shape, piece)) != 12:
                continue
            met += 1
            told = fewest(shape, piece)
            self.assertEqual(len(told), fewest_many(shape, piece))
            self.assertIs(fewer_right(shape, piece, len(told) - 1, fewer_paper(shape, piece)), True)


class Refused(unittest.TestCase):

    def test_endless_is_ahead_of_all_else(self):
        shapes = [((), True), (((0, 0),), True), (line(14), True), (line(14) + ((5, 5),), True)]
        for shape in shapes:
            for asked in (marks, sure, fewest, fewer_paper):
                with self.assertRaises(Endless):
                    asked(shape, PAIR)
            for many, tree in [(0, ((0, 0), [])), (12, ((0, 0), [])), (1, ((0, 0), [((0, 0), ((0, 1), []))]))]:
                with self.assertRaises(Endless):
                    fewer_right(shape, PAIR, many, tree)

    def test_no_marks_is_ahead_of_too_many(self):
        for shape in [(line(14) + ((5, 5),), False), (((5, 5),), False), (line(2) + ((0, 7),), False)]:
            for asked in (sure, fewest, fewer_paper):
                with self.assertRaises(NoMarks):
                    asked(shape, PAIR)


class Told(unittest.TestCase):
    """0.2"""

    def test_what_is_handed_in_stays(self):
        for shape, piece in marked_shapes(76, 30, least=1):
            many = len(fewest(shape, piece)) - 1
            tree = fewer_paper(shape, piece)
            ahead = copy.deepcopy((shape, piece, tree))
            fewer_right(shape, piece, many, tree)
            self.assertEqual((shape, piece, tree), ahead)

    def test_what_is_told_is_ones_own(self):
        for shape, piece in marked_shapes(77, 30, least=2):
            tree, rows = fewer_paper(shape, piece), sure(shape, piece)
            ahead = copy.deepcopy((tree, rows))
            lists = lists_in(tree) + lists_in(fewer_paper(shape, piece)) + [rows, sure(shape, piece)]
            self.assertEqual(len({id(one) for one in lists}), len(lists))
            for one in lists:
                one.append("spoilt")
            self.assertEqual((fewer_paper(shape, piece), sure(shape, piece)), ahead)
            self.assertEqual(fewest(shape, piece), fewest(shape, piece))


if __name__ == "__main__":
    unittest.main()
