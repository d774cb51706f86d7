import inspect
import random
import unittest

from edgemoss.errors import NoText
from edgemoss.pictures import drawn, read_picture
from plain import BOUND, FAR, check_quick, from_rows, full_shapes, holds, is_shape, some_blots, some_shapes, square


def plain_drawn(shape, top, left, rows, columns):
    """10.1 sign by sign."""
    lines = []
    for r in range(rows):
        lines.append("".join("#" if holds(shape, (top + r, left + c)) else "." for c in range(columns)))
    return "\n".join(lines)


class Drawn(unittest.TestCase):
    """10.1"""

    def test_against_the_plain_reckoning(self):
        dice = random.Random(181)
        for shape in some_shapes(182, 80, most=20):
            corner = dice.randint(-4, 1), dice.randint(-4, 1)
            size = dice.choice([1, 2, 5, 9]), dice.choice([1, 3, 8])
            told = drawn(shape, *corner, *size)
            self.assertIs(type(told), str)
            self.assertEqual(told, plain_drawn(shape, *corner, *size))

    def test_by_hand(self):
        shape = (((0, 0), (1, 2)), False)
        self.assertEqual(drawn(shape, 0, 0, 2, 3), "#..\n..#")
        self.assertEqual(drawn((shape[0], True), 0, 0, 2, 3), ".##\n##.")
        self.assertEqual(drawn(shape, 0, 0, 1, 1), "#")
        self.assertEqual(drawn(shape, 5, 5, 1, 1), ".")
        self.assertEqual(drawn(shape, -1, -1, 3, 2), "..\n.#\n..")
        self.assertEqual(drawn(((), False), 0, 0, 3, 1), ".\n.\n.")
        self.assertEqual(drawn(((), True), 0, 0, 1, 4), "####")

    def test_40_rows_and_columns(self):
        for rest in (False, True):
            for size in ((40, 40), (40, 1), (1, 40), (39, 40)):
                shape = (square(20, 20, 3), rest)
                told = drawn(shape, -2, -3, *size)
                self.assertEqual([len(line) for line in told.split("\n")], [size[1]] * size[0])
                if size != (40, 40):
                    self.assertEqual(told, plain_drawn(shape, -2, -3, *size))
        self.assertEqual(drawn(((), True), 0, 0, 40, 40), "\n".join(["#" * 40] * 40))

    def test_far_from_the_middle(self):
        for cell in FAR:
            for rest in (False, True):
                shape = ((cell,), rest)
                told = drawn(shape, cell[0], cell[1], 2, 3)
                self.assertEqual(told, plain_drawn(shape, cell[0], cell[1], 2, 3))
                self.assertEqual(told.count("#"), 5 if rest else 1)
        self.assertEqual(drawn((((BOUND, -BOUND),), False), BOUND, -BOUND, 1, 2), "#.")

    def test_soon(self):
        for shape in full_shapes():
            check_quick(self, [lambda: drawn(shape, 0, 0, 40, 40), lambda: drawn((shape[0], True), 0, 0, 40, 40)])


class ReadPicture(unittest.TestCase):
    """10.1"""

    def test_by_hand(self):
        self.assertEqual(read_picture("#..\n..#"), (((0, 0), (1, 2)), False))
        self.assertEqual(read_picture("#..\n..#", 5, -3), (((5, -3), (6, -1)), False))
        self.assertEqual(read_picture("."), ((), False))
        self.assertEqual(read_picture("#"), (((0, 0),), False))
        self.assertEqual(read_picture("#", -7), (((-7, 0),), False))
        self.assertEqual(read_picture("#\n#\n."), (((0, 0), (1, 0)), False))
        self.assertEqual(read_picture("#", BOUND, -BOUND), (((BOUND, -BOUND),), False))
        self.assertEqual(read_picture("##", BOUND, BOUND), (((BOUND, BOUND), (BOUND, BOUND + 1)), False))
        values = inspect.signature(read_picture).parameters.values()
        self.assertEqual([value.default for value in values][1:], [0, 0])

    def test_against_the_plain_reckoning(self):
        dice = random.Random(183)
        for _ in range(100):
            rows = ["".join(dice.choice("#.") for _ in range(7)) for _ in range(dice.randint(1, 6))]
            corner = dice.randint(-9, 9), dice.choice([0, -4, BOUND, -BOUND])
            told = read_picture("\n".join(rows), *corner)
            self.assertTrue(is_shape(told))
            self.assertEqual(told, from_rows(rows, *corner))

    def test_drawn_and_read_again(self):
        for top, left in ((0, 0), (-3, 2), (BOUND - 2, -BOUND)):
            for shape in some_blots(184, 30, 5, 6, top, left):
                text = drawn(shape, top, left, 5, 6)
                self.assertEqual(read_picture(text, top, left), shape)
                self.assertEqual(drawn(read_picture(text), 0, 0, 5, 6), text)
        for shape in full_shapes():
            self.assertEqual(read_picture(drawn(shape, 0, 0, 40, 40)), shape)

    def test_more_than_400_cells(self):
        told = read_picture("\n".join(["#" * 40] * 40))
        self.assertEqual(told, (square(40, 40), False))
        told = read_picture("\n".join(["#" * 21] * 20), 3, 3)
        self.assertEqual(len(told[0]), 420)
        self.assertEqual(len(read_picture("#" * 1640)[0]), 1640)

    def check_refused(self, text, at):
        with self.assertRaises(NoText) as caught:
            read_picture(text)
        self.assertEqual(caught.exception.at, at, text)
        self.assertIs(type(caught.exception.at), int)
        self.assertRaises(NoText, read_picture, text, 5, -5)

    def test_another_sign(self):
        for sign in (chr(code) for code in range(ord(" "), ord("~") + 1)):
            if sign not in "#.":
                self.check_refused(sign, 0)
                self.check_refused("#." + sign, 0)
                self.check_refused("..\n" + sign + "#\n..", 1)
                self.check_refused("..\n##\n#" + sign, 2)

    def test_a_row_without_signs(self):
        self.check_refused("", 0)
        self.check_refused("\n", 0)
        self.check_refused("\n#", 0)
        self.check_refused("#\n", 1)
        self.check_refused("#\n\n#", 1)
        self.check_refused("##\n##\n", 2)
        self.check_refused("##\n..\n\n##\n\n", 2)
        self.check_refused("\n\n\n", 0)

    def test_a_row_that_is_longer_or_shorter_than_the_first_one(self):
        self.check_refused("#\n##", 1)
        self.check_refused("##\n#", 1)
        self.check_refused("##\n##\n###\n##", 2)
        self.check_refused("##\n#\n##", 1)
        self.check_refused("#\n##\n##\n##", 1)
        self.check_refused("...\n...\n....", 2)

    def test_the_first_row_with_a_fault_is_told(self):
        self.check_refused("##\n#\n#x\n\n", 1)
        self.check_refused("##\n##\n#x\n#\n", 2)
        self.check_refused("x\n\n##", 0)
        self.check_refused("##\n\nxx", 1)
        self.check_refused("## ", 0)
        self.check_refused(" ##", 0)
        self.check_refused("#.\n.# \n#.", 1)


if __name__ == "__main__":
    unittest.main()
