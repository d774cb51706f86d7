import copy
import itertools
import unittest

from edgemoss.growing import closed, opened
from edgemoss.papers import filled_right, left_right, why_filled, why_left
from plain import (
    BOUND, FAR, holds, in_closed, in_opened, is_cell, lies_whole, minus, plus, some_pieces, some_shapes, square, window,
)

AWAY = [(10 ** 30, -10 ** 30), (-10 ** 30, 0), (BOUND + 1, 0), (3, 2), (0, 0)]


def plain_left(shape, piece, cell):
    """3.2 word by word."""
    places = [minus(cell, step) for step in piece]
    whole = sorted(place for place in places if lies_whole(shape, piece, place))
    if whole:
        return ("stays", whole[0])
    lacking = [sorted(plus(step, place) for step in piece if not holds(shape, plus(step, place))) for place in places]
    return ("goes", [(place, cells[0]) for place, cells in zip(places, lacking)])


def plain_filled(shape, piece, cell):
    """3.3 word by word."""
    leading = []
    for step in piece:
        asked = plus(cell, step)
        leading.append(sorted(minus(asked, other) for other in piece if holds(shape, minus(asked, other))))
    if all(leading):
        return ("comes", [cells[0] for cells in leading])
    return ("not", min(step for step, cells in zip(piece, leading) if not cells))


def without(row, place):
    return row[:place] + row[place + 1:]


def with_other(row, place, thing):
    return row[:place] + [thing] + row[place + 1:]


class Asked(unittest.TestCase):

    def setUp(self):
        pieces = some_pieces(51, 12, most=5, span=1) + [((0, 0),), ((3, -2),), ((0, 0), (0, 1))]
        pieces = pieces + [square(2, 2), square(3, 4)]
        shapes = some_shapes(52, 24, most=20, span=2) + [(square(4, 4), False), (square(3, 3), True)]
        self.cases = [
            (shape, piece, cell)
            for shape, piece in itertools.product(shapes, pieces)
            for cell in window([shape], 1)[::2] + FAR
        ]


class WhyLeft(Asked):
    """3.1, 3.2"""

    def test_against_the_plain_reckoning(self):
        seen = set()
        for shape, piece, cell in self.cases:
            told = why_left(shape, piece, cell)
            self.assertEqual(told, plain_left(shape, piece, cell))
            self.assertIs(type(told), tuple)
            self.assertEqual(told[0] == "stays", in_opened(shape, piece, cell))
            seen.add((told[0], shape[1], holds(shape, cell)))
        # A cell that the shape lacks never stays; the other ways have all been met.
        self.assertEqual(len(seen), 6)

    def test_kinds(self):
        for shape, piece, cell in self.cases:
            told = why_left(shape, piece, cell)
            if told[0] == "stays":
                self.assertTrue(is_cell(told[1]))
            else:
                self.assertIs(type(told[1]), list)
                for row in told[1]:
                    self.assertTrue(type(row) is tuple and len(row) == 2 and is_cell(row[0]) and is_cell(row[1]))

    def test_by_hand(self):
        shape = (((0, 0), (0, 1), (0, 2), (1, 1)), False)
        piece = ((0, 0), (0, 1))
        self.assertEqual(why_left(shape, piece, (0, 1)), ("stays", (0, 0)))
        self.assertEqual(why_left(shape, piece, (0, 0)), ("stays", (0, 0)))
        self.assertEqual(why_left(shape, piece, (0, 2)), ("stays", (0, 1)))
        self.assertEqual(why_left(shape, piece, (1, 1)), ("goes", [((1, 1), (1, 2)), ((1, 0), (1, 0))]))
        self.assertEqual(why_left(shape, piece, (5, 5)), ("goes", [((5, 5), (5, 5)), ((5, 4), (5, 4))]))

    def test_it_stays_just_where_opened_has_it(self):
        for shape, piece, cell in self.cases[::5]:
            self.assertEqual(why_left(shape, piece, cell)[0] == "stays", holds(opened(shape, piece), cell))

    def test_told_papers_are_right(self):
        for shape, piece, cell in self.cases:
            self.assertIs(left_right(shape, piece, cell, why_left(shape, piece, cell)), True)

    def test_any_place_will_do_where_the_piece_lies_whole_and_on_the_cell(self):
        others = 0
        for shape, piece, cell in self.cases[::3]:
            for place in window([(tuple(minus(cell, step) for step in piece), False)], 1) + AWAY:
                lies_on = cell in [plus(step, place) for step in piece]
                asked = lies_on and lies_whole(shape, piece, place)
                self.assertIs(left_right(shape, piece, cell, ("stays", place)), asked)
                others += asked and ("stays", place) != why_left(shape, piece, cell)
        self.assertGreater(others, 100)

    def test_any_lacking_cell_will_do(self):
        others = 0
        for shape, piece, cell in self.cases[::3]:
            told = why_left(shape, piece, cell)
            if told[0] == "stays":
                continue
            for k, (place, lacking) in enumerate(told[1]):
                for other in [plus(step, place) for step in piece] + [lacking, plus(lacking, (0, 1)), place] + AWAY:
                    lies_on = other in [plus(step, place) for step in piece]
                    asked = lies_on and not holds(shape, other)
                    paper = ("goes", with_other(told[1], k, (place, other)))
                    self.assertIs(left_right(shape, piece, cell, paper), asked)
                    others += asked and other != lacking
        self.assertGreater(others, 100)

    def test_spoilt_rows(self):
        for shape, piece, cell in self.cases[::3]:
            told = why_left(shape, piece, cell)
            if told[0] == "stays":
                self.assertIs(left_right(shape, piece, cell, ("goes", [])), False)
                rows = [(minus(cell, step), minus(cell, step)) for step in piece]
                self.assertIs(left_right(shape, piece, cell, ("goes", rows)), False)
                continue
            rows = told[1]
            spoilt = [[], rows + rows[:1], rows[:1] + rows, rows + [((0, 0), (0, 0))]]
            for k, (place, lacking) in enumerate(rows):
                spoilt.append(without(rows, k))
                spoilt.append(with_other(rows, k, (plus(place, (1, 0)), lacking)))
                spoilt.append(with_other(rows, k, (plus(place, (1, 0)), plus(lacking, (1, 0)))))
                spoilt.append(with_other(rows, k, ((10 ** 30, 0), lacking)))
            for k in range(len(rows) - 1):
                spoilt.append(rows[:k] + [rows[k + 1], rows[k]] + rows[k + 2:])
                spoilt.append(with_other(rows, k + 1, rows[k]))
            for row in spoilt:
                self.assertIs(left_right(shape, piece, cell, ("goes", row)), False, (shape, piece, cell, row))

    def test_of_each_cell_papers_of_one_form_alone_are_right(self):
        for shape, piece, cell in self.cases[::3]:
            if why_left(shape, piece, cell)[0] == "goes":
                for step in piece:
                    self.assertIs(left_right(shape, piece, cell, ("stays", minus(cell, step))), False)

    def test_what_is_handed_in_stays_and_what_is_told_is_ones_own(self):
        """0.2"""
        shape, piece = (((0, 0),), False), ((0, 0), (0, 1))
        told = why_left(shape, piece, (0, 0))
        again = why_left(shape, piece, (0, 0))
        ahead = copy.deepcopy(told)
        self.assertEqual(told, again)
        self.assertIsNot(told[1], again[1])
        left_right(shape, piece, (0, 0), told)
        self.assertEqual(told, ahead)
        told[1].clear()
        self.assertEqual(again, ahead)
        self.assertEqual(why_left(shape, piece, (0, 0)), ahead)


class WhyFilled(Asked):
    """3.3"""

    def test_against_the_plain_reckoning(self):
        seen = set()
        for shape, piece, cell in self.cases:
            told = why_filled(shape, piece, cell)
            self.assertEqual(told, plain_filled(shape, piece, cell))
            self.assertIs(type(told), tuple)
            self.assertEqual(told[0] == "comes", in_closed(shape, piece, cell))
            seen.add((told[0], shape[1], holds(shape, cell)))
        # A cell that the shape has always comes; the other ways have all been met.
        self.assertEqual(len(seen), 6)

    def test_kinds(self):
        for shape, piece, cell in self.cases:
            told = why_filled(shape, piece, cell)
            if told[0] == "comes":
                self.assertIs(type(told[1]), list)
                self.assertTrue(all(map(is_cell, told[1])))
            else:
                self.assertTrue(is_cell(told[1]))

    def test_by_hand(self):
        shape = (((0, 0), (0, 2)), False)
        piece = ((0, 0), (0, 1))
        self.assertEqual(why_filled(shape, piece, (0, 0)), ("comes", [(0, 0), (0, 0)]))
        self.assertEqual(why_filled(shape, piece, (0, 1)), ("comes", [(0, 0), (0, 2)]))
        self.assertEqual(why_filled(shape, piece, (0, 2)), ("comes", [(0, 2), (0, 2)]))
        self.assertEqual(why_filled(shape, piece, (0, 3)), ("not", (0, 1)))
        self.assertEqual(why_filled(shape, piece, (0, -1)), ("not", (0, 0)))

    def test_it_comes_just_where_closed_has_it(self):
        for shape, piece, cell in self.cases[::5]:
            self.assertEqual(why_filled(shape, piece, cell)[0] == "comes", holds(closed(shape, piece), cell))

    def test_told_papers_are_right(self):
        for shape, piece, cell in self.cases:
            self.assertIs(filled_right(shape, piece, cell, why_filled(shape, piece, cell)), True)

    def test_any_cell_that_is_led_there_will_do(self):
        others = 0
        for shape, piece, cell in self.cases[::3]:
            told = why_filled(shape, piece, cell)
            if told[0] == "not":
                continue
            for k, step in enumerate(piece):
                target = plus(cell, step)
                near = [minus(target, other) for other in piece]
                for leading in near + [plus(near[0], (1, 0)), plus(near[-1], (0, -1)), target] + AWAY:
                    asked = holds(shape, leading) and minus(target, leading) in piece
                    paper = ("comes", with_other(told[1], k, leading))
                    self.assertIs(filled_right(shape, piece, cell, paper), asked)
                    others += asked and leading != told[1][k]
        self.assertGreater(others, 100)

    def test_any_step_that_has_none_will_do(self):
        others = 0
        for shape, piece, cell in self.cases[::3]:
            for step in window([(piece, False)], 1) + AWAY:
                reached = [minus(plus(cell, step), other) for other in piece]
                asked = step in piece and not any(holds(shape, other) for other in reached)
                self.assertIs(filled_right(shape, piece, cell, ("not", step)), asked)
                others += asked and ("not", step) != why_filled(shape, piece, cell)
        self.assertGreater(others, 100)

    def test_spoilt_rows(self):
        exchanged = 0
        for shape, piece, cell in self.cases[::3]:
            told = why_filled(shape, piece, cell)
            self.assertIs(filled_right(shape, piece, cell, ("comes", [])), False)
            if told[0] == "not":
                self.assertIs(filled_right(shape, piece, cell, ("comes", [cell] * len(piece))), False)
                continue
            cells = told[1]
            spoilt = [cells + cells[:1], cells[:1] + cells, cells + [(10 ** 30, 0)]]
            for k in range(len(cells)):
                spoilt.append(without(cells, k))
                spoilt.append(with_other(cells, k, (10 ** 30, -10 ** 30)))
            for row in spoilt:
                self.assertIs(filled_right(shape, piece, cell, ("comes", row)), False)
            for k in range(len(cells) - 1):
                row = cells[:k] + [cells[k + 1], cells[k]] + cells[k + 2:]
                asked = all(minus(plus(cell, step), leading) in piece for step, leading in zip(piece, row))
                self.assertIs(filled_right(shape, piece, cell, ("comes", row)), asked)
                exchanged += not asked
        self.assertGreater(exchanged, 20)

    def test_what_is_handed_in_stays_and_what_is_told_is_ones_own(self):
        """0.2"""
        shape, piece = (((0, 0), (0, 2)), False), ((0, 0), (0, 1))
        told = why_filled(shape, piece, (0, 1))
        again = why_filled(shape, piece, (0, 1))
        ahead = copy.deepcopy(told)
        self.assertIsNot(told[1], again[1])
        filled_right(shape, piece, (0, 1), told)
        self.assertEqual(told, ahead)
        told[1].append((9, 9))
        self.assertEqual(again, ahead)
        self.assertEqual(why_filled(shape, piece, (0, 1)), ahead)


class AtTheBound(unittest.TestCase):

    def test_papers_tell_cells_beyond(self):
        b = BOUND
        shape, piece = (((b, b),), False), ((-1, 0), (0, 1))
        self.assertEqual(
            why_left(shape, piece, (b, b)), ("goes", [((b + 1, b), (b + 1, b + 1)), ((b, b - 1), (b - 1, b - 1))])
        )
        self.assertEqual(why_filled(shape, piece, (b, b)), ("comes", [(b, b), (b, b)]))
        for asked, right in [(why_left, left_right), (why_filled, filled_right)]:
            self.assertIs(right(shape, piece, (b, b), asked(shape, piece, (b, b))), True)

    def test_400_cells_and_12_steps(self):
        for rest in (False, True):
            shape, piece = (square(20, 20), rest), square(3, 4)
            for cell in [(0, 0), (10, 10), (19, 19), (20, 5), (-1, -1), (2, 21)]:
                self.assertEqual(why_left(shape, piece, cell), plain_left(shape, piece, cell))
                self.assertEqual(why_filled(shape, piece, cell), plain_filled(shape, piece, cell))


if __name__ == "__main__":
    unittest.main()
