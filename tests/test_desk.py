import copy
import random
import unittest

from edgemoss.answers import answer
from edgemoss.compare import alike
from edgemoss.desk import Desk
from edgemoss.errors import BadDeed, Endless, MossError, TooMany, TooWide
from edgemoss.plans import Eat, Everything, Grow, Keep, Move, Nothing
from edgemoss.thinning import thinning_right
from plain import (
    BOUND, RINGS, check_quick, comes_out, each_kind, full_shapes, holds, holes_in_shape, is_shape, narrow_plans,
    parts_in_shape, put_together, singles, some_blots, some_plans, some_shapes, spread, square, text_of, window,
    without,
)

EMPTY = ((), False)
PLUS = "5 -1 0 0 -1 0 0 0 1 1 0"


def desk_with(shape):
    """One with this shape, a deed for each of its cells and one for the rest."""
    desk = Desk()
    for cell in shape[0]:
        desk.say("put %d %d" % cell)
    if shape[1]:
        desk.say("out")
    return desk


def desk_of_400(top=0, left=0):
    """One with 400 cells in the tuple, 20 rows and 20 columns."""
    desk = Desk()
    desk.say("put %d %d" % (top, left))
    for stride, many in ((1, 10), (10, 2)):
        for steps in ([(0, k * stride) for k in range(many)], [(k * stride, 0) for k in range(many)]):
            desk.say("do grow %d %s keep" % (many, " ".join("%d %d" % step for step in steps)))
    return desk


def told_steps(steps):
    return "".join(" %d %d" % step for step in steps)


class Asked(unittest.TestCase):

    def says(self, desk, *rows):
        """Each row, answered by the text behind it."""
        for row, told in zip(rows[::2], rows[1::2]):
            self.assertEqual(desk.say(row), told, row)
            self.assertTrue(is_shape(desk.shape()))

    def check_refused(self, desk, row, refusal):
        ahead = desk.shape(), desk.say("deeds")
        with self.assertRaises(refusal, msg=row) as caught:
            desk.say(row)
        self.assertIs(type(caught.exception), refusal)
        self.assertEqual((desk.shape(), desk.say("deeds")), ahead)


class Deeds(Asked):
    """10.2"""

    def test_at_first(self):
        desk = Desk()
        self.assertEqual(desk.shape(), EMPTY)
        self.says(desk, "count", "0", "deeds", "0", "parts", "0", "holes", "0", "has 0 0", "no")

    def test_put_and_take(self):
        desk = Desk()
        self.says(desk, "put 2 3", "ok", "put -1 0", "ok", "put 2 3", "ok", "deeds", "3")
        self.assertEqual(desk.shape(), (((-1, 0), (2, 3)), False))
        self.says(desk, "take 2 3", "ok", "take 9 9", "ok", "deeds", "5")
        self.assertEqual(desk.shape(), (((-1, 0),), False))
        self.says(desk, "out", "ok", "put -1 0", "ok", "take 7 7", "ok", "put 8 8", "ok", "take 7 7", "ok")
        self.assertEqual(desk.shape(), (((7, 7),), True))
        self.says(desk, "put 7 7", "ok")
        self.assertEqual(desk.shape(), ((), True))

    def test_put_and_take_of_shapes(self):
        for shape in some_shapes(201, 30, most=6, span=1):
            for cell in window([shape], 1):
                for word in ("put", "take"):
                    desk = desk_with(shape)
                    self.assertEqual(desk.shape(), shape)
                    self.says(desk, "%s %d %d" % ((word,) + cell), "ok")
                    self.assertIs(holds(desk.shape(), cell), word == "put")
                    for other in window([shape], 1):
                        if other != cell:
                            self.assertIs(holds(desk.shape(), other), holds(shape, other))

    def test_move(self):
        for shape in some_shapes(202, 20):
            desk = desk_with(shape)
            self.says(desk, "move 3 -8", "ok")
            self.assertEqual(desk.shape(), (tuple((r + 3, c - 8) for r, c in shape[0]), shape[1]))
            self.says(desk, "move -3 8", "ok", "move 0 0", "ok")
            self.assertEqual(desk.shape(), shape)

    def test_turn(self):
        cells = [(1, 2), (0, 5)]
        for turn in range(8):
            asked = [(r, -c if turn > 3 else c) for r, c in cells]
            for _ in range(turn % 4):
                asked = [(c, -r) for r, c in asked]
            for rest in (False, True):
                desk = desk_with((tuple(sorted(cells)), rest))
                self.says(desk, "turn %d" % turn, "ok")
                self.assertEqual(desk.shape(), (tuple(sorted(asked)), rest))

    def test_out(self):
        for shape in some_shapes(203, 10):
            desk = desk_with(shape)
            self.says(desk, "out", "ok")
            self.assertEqual(desk.shape(), (shape[0], not shape[1]))
            self.says(desk, "out", "ok")
            self.assertEqual(desk.shape(), shape)

    def test_do(self):
        for plan in put_together()[::3] + some_plans(204, 20):
            for shape in some_shapes(205, 6):
                desk = desk_with(shape)
                self.says(desk, "do " + text_of(plan), "ok")
                self.assertEqual(desk.shape(), plan.done(shape))
                for cell in window([shape], 2)[::7]:
                    self.assertIs(holds(desk.shape(), cell), comes_out(plan, shape, cell))

    def test_thin(self):
        for shape in [EMPTY, RINGS, (square(4, 6), False)] + some_blots(206, 40):
            desk = desk_with(shape)
            self.says(desk, "thin", "ok")
            left = desk.shape()
            self.assertTrue(set(left[0]) <= set(shape[0]))
            self.assertEqual(len(parts_in_shape(left)), len(parts_in_shape(shape)))
            self.assertEqual(len(holes_in_shape(left)), len(holes_in_shape(shape)))
            self.assertTrue(thinning_right(left, [], []))
            self.says(desk, "thin", "ok")
            self.assertEqual(desk.shape(), left)

    def test_a_deed_that_leaves_the_shape_as_it_was_is_one(self):
        desk = desk_with((((0, 0), (5, 5)), False))
        rows = ["put 0 0", "take 9 9", "move 0 0", "turn 0", "do keep", "do either keep none", "thin"]
        for many, row in enumerate(rows):
            ahead = desk.shape()
            self.says(desk, row, "ok", "deeds", str(3 + many))
            self.assertEqual(desk.shape(), ahead)
        for row in rows:
            self.says(desk, "back", "ok")
        self.says(desk, "deeds", "2")
        self.assertEqual(desk.shape(), (((0, 0), (5, 5)), False))

    def test_deeds_on_shapes_with_the_rest(self):
        desk = desk_with((((0, 0),), True))
        self.says(desk, "move 1 1", "ok", "turn 1", "ok", "do eat 2 0 0 0 1 keep", "ok")
        self.assertEqual(desk.shape(), (((1, -2), (1, -1)), True))
        self.says(desk, "count", "endless", "has 1 -1", "no", "has 0 0", "yes", "out", "ok", "count", "2")


class Back(Asked):
    """10.2"""

    def test_behind_each_kind_of_deed(self):
        for row in ("put 9 9", "take 0 1", "move 1 2", "turn 3", "out", "do grow %s keep" % PLUS, "thin", "do all"):
            desk = desk_with((((0, 0), (0, 1), (0, 2)), False))
            ahead = desk.shape()
            self.says(desk, row, "ok", "deeds", "4")
            self.assertNotEqual(desk.shape(), ahead)
            self.says(desk, "back", "ok", "deeds", "3")
            self.assertEqual(desk.shape(), ahead)

    def test_more_than_one(self):
        dice = random.Random(207)
        rows = ["put 0 0", "put 0 1", "take 0 1", "move 2 -1", "turn 6", "out", "do eat 2 0 0 0 1 keep", "do keep"]
        for _ in range(40):
            desk, met = Desk(), [EMPTY]
            for _ in range(40):
                if len(met) > 1 and dice.random() < 0.4:
                    self.says(desk, "back", "ok")
                    met.pop()
                else:
                    self.says(desk, dice.choice(rows), "ok")
                    met.append(desk.shape())
                self.assertEqual(desk.shape(), met[-1])
                self.assertEqual(desk.say("deeds"), str(len(met) - 1))
            while len(met) > 1:
                self.says(desk, "back", "ok")
                met.pop()
                self.assertEqual(desk.shape(), met[-1])
            self.check_refused(desk, "back", BadDeed)

    def test_back_is_no_deed_that_is_taken_back(self):
        desk = Desk()
        self.says(desk, "put 1 1", "ok", "put 2 2", "ok", "back", "ok", "back", "ok", "deeds", "0")
        self.assertEqual(desk.shape(), EMPTY)
        self.check_refused(desk, "back", BadDeed)
        self.says(desk, "put 3 3", "ok", "back", "ok", "put 4 4", "ok", "deeds", "1")
        self.assertEqual(desk.shape(), (((4, 4),), False))

    def test_refused_where_no_deed_is_left(self):
        desk = Desk()
        self.check_refused(desk, "back", BadDeed)
        for row in ("count", "deeds", "has 0 0", "parts", "holes", "show 0 0 1 1", "same keep keep", "why 0 0 keep"):
            desk.say(row)
        self.check_refused(desk, "back", BadDeed)

    def test_deeds_counts_no_question_and_nothing_refused(self):
        desk = desk_with((((0, 0), (40, 0)), True))
        for row in ("count", "has 1 1", "show 0 0 2 2", "why 0 0 keep", "same keep none", "deeds"):
            desk.say(row)
            self.assertEqual(desk.say("deeds"), "3")
        for row in ("thin", "parts", "holes", "put 0", "", "do x", "move %d 0" % BOUND, "do grow 13"):
            self.assertRaises(MossError, desk.say, row)
            self.assertEqual(desk.say("deeds"), "3")
        self.says(desk, "back", "ok", "deeds", "2")
        self.assertEqual(desk.shape(), (((0, 0), (40, 0)), False))


class Questions(Asked):
    """10.2"""

    def check_asked(self, desk, row, told):
        ahead = desk.shape(), desk.say("deeds")
        answered = desk.say(row)
        self.assertIs(type(answered), str)
        self.assertEqual(answered, told, row)
        self.assertEqual(desk.say(row), told)
        self.assertEqual((desk.shape(), desk.say("deeds")), ahead)

    def test_has_and_count(self):
        for shape in some_shapes(208, 20):
            desk = desk_with(shape)
            self.check_asked(desk, "count", "endless" if shape[1] else str(len(shape[0])))
            for cell in window([shape], 1)[::3]:
                self.check_asked(desk, "has %d %d" % cell, "yes" if holds(shape, cell) else "no")

    def test_show(self):
        desk = desk_with((((0, 0), (1, 2)), False))
        self.check_asked(desk, "show 0 0 2 3", "#..\n..#")
        self.check_asked(desk, "show -1 1 3 2", "..\n..\n.#")
        self.check_asked(desk, "show 0 0 1 1", "#")
        self.check_asked(desk, "show %d %d 1 2" % (BOUND, -BOUND), "..")
        self.check_asked(desk, "show 0 0 40 40", "\n".join(
            "".join("#" if (r, c) in ((0, 0), (1, 2)) else "." for c in range(40)) for r in range(40)
        ))
        desk.say("out")
        self.check_asked(desk, "show 0 0 2 3", ".##\n##.")
        self.check_asked(desk, "show 1 0 1 3", "##.")

    def test_why_by_hand(self):
        desk = desk_with((((0, 0), (0, 1), (0, 2), (5, 5)), False))
        smooth = "grow 2 0 0 0 1 eat 2 0 0 0 1 keep"
        self.check_asked(desk, "why 0 0 " + smooth, "piece 0 0 0 1")
        self.check_asked(desk, "why 0 1 " + smooth, "piece 0 -1 0 0")
        self.check_asked(desk, "why 5 5 " + smooth, "bar 0 -1 0 1")
        self.check_asked(desk, "why 0 3 " + smooth, "bar 0 0")
        self.check_asked(desk, "why 0 0 keep", "piece 0 0")
        self.check_asked(desk, "why -7 0 keep", "bar 0 0")
        self.check_asked(desk, "why 0 0 move -3 12 keep", "bar 3 -12")
        # Without steps too.
        self.check_asked(desk, "why 0 0 all", "piece")
        self.check_asked(desk, "why 0 0 none", "bar")
        self.check_asked(desk, "why 0 0 either keep all", "piece")
        desk.say("out")
        self.check_asked(desk, "why 5 5 keep", "bar 0 0")
        self.check_asked(desk, "why 6 5 " + smooth, "piece 0 -1 0 0")

    def test_why_is_the_answer(self):
        words = {"piece": 0, "bar": 0}
        for plan in narrow_plans(209, most=6)[::2]:
            for shape in some_shapes(210, 5, span=1):
                desk = desk_with(shape)
                for cell in ((0, 0), (1, -1)):
                    word, steps = answer(plan, shape, cell)
                    words[word] += 1
                    self.check_asked(desk, "why %d %d %s" % (cell + (text_of(plan),)), word + told_steps(steps))
        self.assertGreater(min(words.values()), 100)

    def test_same_by_hand(self):
        desk = Desk()
        pair = "2 0 0 0 1"
        self.check_asked(desk, "same keep keep", "same")
        self.check_asked(desk, "same keep move 0 0 keep", "same")
        self.check_asked(desk, "same keep eat %s keep" % pair, "unlike first 0 0")
        self.check_asked(desk, "same eat %s keep keep" % pair, "unlike second 0 0")
        self.check_asked(desk, "same eat %s keep none" % pair, "unlike first 0 0 0 1")
        self.check_asked(desk, "same none eat %s move 2 5 keep" % pair, "unlike second -2 -5 -2 -4")
        # Without steps too.
        self.check_asked(desk, "same all keep", "unlike first")
        self.check_asked(desk, "same keep all", "unlike second")
        self.check_asked(desk, "same none all", "unlike second")
        self.check_asked(desk, "same all none", "unlike first")

    def test_same_is_alike(self):
        dice = random.Random(211)
        plans = narrow_plans(212, most=6)
        desk = desk_with((((0, 0),), True))
        met = {}
        for _ in range(150):
            one, other = dice.choice(plans), dice.choice(plans)
            told = alike(one, other)
            asked = "same"
            if told[0] == "parted":
                asked = "unlike " + ("first", "second")[told[2]] + told_steps(told[1])
            self.check_asked(desk, "same %s %s" % (text_of(one), text_of(other)), asked)
            met[asked.split(" ")[:2][-1]] = True
        self.assertEqual(set(met), {"same", "first", "second"})

    def test_parts_and_holes(self):
        for shape in [EMPTY, RINGS] + some_blots(213, 40):
            desk = desk_with(shape)
            self.check_asked(desk, "parts", str(len(parts_in_shape(shape))))
            self.check_asked(desk, "holes", str(len(holes_in_shape(shape))))


class Refused(Asked):
    """10.3"""

    def test_endless_and_too_wide(self):
        for shape in (((), True), (((0, 0), (0, 40)), True)):
            desk = desk_with(shape)
            for row in ("thin", "parts", "holes"):
                self.check_refused(desk, row, Endless)
        for cell in ((0, 40), (40, 0), (BOUND, BOUND)):
            desk = desk_with((((0, 0), cell), False))
            self.check_refused(desk, "holes", TooWide)
            self.says(desk, "parts", "2", "thin", "ok")
        for cell in ((0, 39), (39, 0)):
            self.says(desk_with((((0, 0), cell), False)), "holes", "0")

    def test_just_400_and_401_cells(self):
        desk = desk_of_400()
        self.says(desk, "count", "400", "deeds", "5")
        self.assertEqual(desk.shape(), (square(20, 20), False))
        self.check_refused(desk, "put 30 30", TooMany)
        self.says(desk, "put 0 0", "ok", "take 0 0", "ok", "put 30 30", "ok", "count", "400")
        self.check_refused(desk, "put 0 0", TooMany)
        self.says(desk, "out", "ok", "count", "endless", "put 1 1", "ok", "take 0 0", "ok")
        self.check_refused(desk, "take 2 50", TooMany)
        self.says(desk, "put 90 90", "ok", "take 0 0", "ok", "move 1 1", "ok", "turn 2", "ok")
        self.assertEqual(len(desk.shape()[0]), 400)

    def test_do_with_just_400_and_401_cells(self):
        desk = desk_of_400()
        self.check_refused(desk, "do grow 2 0 0 0 1 keep", TooMany)
        self.check_refused(desk, "do either keep move 7 0 keep", TooMany)
        self.says(desk, "do either keep move 0 0 keep", "ok", "out", "ok")
        self.check_refused(desk, "do eat 2 0 0 0 1 keep", TooMany)
        self.says(desk, "do grow 2 0 0 0 1 keep", "ok", "do eat 2 0 0 0 1 keep", "ok", "out", "ok", "count", "400")
        self.says(desk, "take 0 0", "ok", "do either keep grow 1 0 0 keep", "ok", "count", "399")

    def test_just_401_by_do(self):
        desk = Desk()
        for k in range(100):
            desk.say("put %d 0" % (2 * k))
        four = "do grow 4 0 0 0 2 0 4 0 6 keep"
        self.says(desk, four, "ok", "count", "400", "back", "ok", "put 0 2", "ok")
        self.assertEqual(len({(r, c + k) for r, c in desk.shape()[0] for k in (0, 2, 4, 6)}), 401)
        self.check_refused(desk, four, TooMany)
        self.says(desk, "out", "ok")
        self.check_refused(desk, "do eat 4 0 -6 0 -4 0 -2 0 0 keep", TooMany)
        self.says(desk, "put 0 2", "ok", "do eat 4 0 -6 0 -4 0 -2 0 0 keep", "ok", "out", "ok", "count", "400")

    def test_more_than_400_on_the_way(self):
        desk = desk_of_400()
        self.says(desk, "do eat 2 0 0 0 1 grow 2 0 0 0 1 keep", "ok", "count", "400")
        self.says(desk, "do both keep grow 4 0 0 0 100 0 200 0 300 keep", "ok", "count", "400")
        self.check_refused(desk, "do both keep grow 6 0 0 0 100 0 200 0 300 0 400 0 500 keep", TooMany)
        self.says(desk, "do both keep grow 5 0 0 0 100 0 200 0 300 0 400 keep", "ok")

    def test_cells_just_at_the_bound_and_one_beyond_it(self):
        for cell, step in [
            ((BOUND, 0), (1, 0)), ((-BOUND, 0), (-1, 0)), ((0, BOUND), (0, 1)), ((0, -BOUND), (0, -1)),
            ((BOUND, -BOUND), (1, 0)), ((5, BOUND), (-3, 1)),
        ]:
            for rest in (False, True):
                desk = desk_with((tuple(sorted([cell, (0, 0)])), rest))
                back = "%d %d" % (-step[0], -step[1])
                self.check_refused(desk, "move %d %d" % step, TooMany)
                self.check_refused(desk, "do move %d %d keep" % step, TooMany)
                self.check_refused(desk, "do %s 1 %s keep" % (("grow", "%d %d" % step), ("eat", back))[rest], TooMany)
                self.says(desk, "move " + back, "ok", "move %d %d" % step, "ok")
                self.assertTrue(cell in desk.shape()[0])
                self.says(desk, "do move %d %d move %s keep" % (step + (back,)), "ok", "out", "ok")
                self.says(desk, "turn 1", "ok", "turn 7", "ok", "do all", "ok", "back", "ok", "do none", "ok")

    def test_far_moves(self):
        desk = desk_with((((0, 0),), False))
        self.says(desk, "move %d %d" % (BOUND, -BOUND), "ok", "count", "1")
        self.assertEqual(desk.shape(), (((BOUND, -BOUND),), False))
        self.check_refused(desk, "move 1 0", TooMany)
        self.check_refused(desk, "move 0 -1", TooMany)
        self.check_refused(desk, "move %d 0" % BOUND, TooMany)
        self.says(desk, "move %d %d" % (-BOUND, BOUND), "ok", "has 0 0", "yes")
        desk = Desk()
        self.says(desk, "move %d %d" % (BOUND, BOUND), "ok", "move %d %d" % (BOUND, BOUND), "ok", "deeds", "2")

    def test_many_of_do_why_and_same(self):
        desk = desk_of_400()
        wide = "grow 6 0 0 0 1000 0 2000 0 3000 0 4000 0 5000 keep"
        self.check_refused(desk, "do both none " + wide, TooMany)
        many, few = text_of(singles(61)), text_of(singles(60))
        self.check_refused(desk, "why 0 0 " + many, TooMany)
        self.says(desk, "why 0 -1 " + few, "bar" + told_steps(sorted(answer(singles(60), EMPTY, (0, 0))[1])))
        self.check_refused(desk, "same %s keep" % many, TooMany)
        self.check_refused(desk, "same keep %s" % many, TooMany)
        self.says(desk, "same %s %s" % (few, few), "same")
        long = singles(61).about()
        self.check_refused(desk, "why 0 0 " + text_of(long), TooMany)
        desk.say("do all")
        self.says(desk, "why 0 0 " + text_of(long), "piece" + told_steps(answer(long, ((), True), (0, 0))[1]))

    def test_what_is_refused_changes_nothing(self):
        desk = desk_of_400()
        shape = desk.shape()
        for row in ("put 99 99", "do grow 2 0 0 0 1 keep", "move %d 0" % BOUND, "turn 8", "x", "", "do", "thin 1"):
            self.assertRaises(MossError, desk.say, row)
        self.assertEqual(desk.shape(), shape)
        self.says(desk, "deeds", "5", "back", "ok", "count", "200", "deeds", "4")


class TwoDesks(Asked):
    """10.4"""

    def test_side_by_side(self):
        one, other = Desk(), Desk()
        self.says(one, "put 1 1", "ok", "put 2 2", "ok")
        self.assertEqual(other.shape(), EMPTY)
        self.says(other, "deeds", "0", "count", "0")
        self.check_refused(other, "back", BadDeed)
        self.says(other, "put 9 9", "ok", "out", "ok")
        self.assertEqual(one.shape(), (((1, 1), (2, 2)), False))
        self.says(one, "deeds", "2", "back", "ok", "back", "ok")
        self.check_refused(one, "back", BadDeed)
        self.assertEqual(other.shape(), (((9, 9),), True))
        self.says(other, "deeds", "2", "back", "ok", "count", "1")
        self.assertEqual(Desk().shape(), EMPTY)

    def test_in_turns(self):
        dice = random.Random(214)
        rows = ["put 0 0", "put 1 0", "take 0 0", "out", "turn 1", "move 1 1", "do grow 2 0 0 0 1 keep"]
        desks, said = [Desk() for _ in range(4)], [[] for _ in range(4)]
        for _ in range(80):
            which = dice.randint(0, 3)
            said[which].append(dice.choice(rows))
            desks[which].say(said[which][-1])
        for desk, some in zip(desks, said):
            alone = Desk()
            for row in some:
                alone.say(row)
            self.assertEqual(desk.shape(), alone.shape())
            self.assertEqual(desk.say("deeds"), str(len(some)))


class Handed(Asked):
    """0.2"""

    def test_what_was_told_stays(self):
        desk = desk_with((square(2, 3), False))
        told = desk.shape()
        kept = copy.deepcopy(told)
        for row in ("put 9 9", "out", "turn 3", "move 5 5", "do grow %s keep" % PLUS, "back", "back"):
            desk.say(row)
        self.assertEqual(told, kept)
        self.assertEqual(desk.shape(), desk.shape())

    def test_400_cells_are_answered_soon(self):
        for shape in full_shapes():
            desk = desk_with(shape)
            rows = [
                "put 0 0", "take 50 50", "turn 5", "back", "thin", "back", "parts", "holes", "count", "show 0 0 40 40",
                "do grow 2 0 0 0 1 eat 2 0 0 0 1 keep", "why 0 0 grow 2 0 0 0 1 eat 2 0 0 0 1 keep", "out", "deeds",
            ]
            check_quick(self, [lambda row=row: desk.say(row) for row in rows])


class Kinds(Asked):
    """Plans of each kind, done and asked for at a desk."""

    def test_each_kind(self):
        shape = (((0, 0), (0, 1), (2, 2)), False)
        more = [Move((0, 1), Nothing()), Eat(spread(2, 1), Everything()), Grow(spread(3, 2), Keep())]
        for plan in each_kind() + more:
            desk = desk_with(shape)
            whys = {cell: desk.say("why %d %d %s" % (cell + (text_of(plan),))) for cell in window([shape], 3)}
            self.says(desk, "do " + text_of(plan), "ok")
            for cell, told in whys.items():
                asked = {"yes": "piece", "no": "bar"}[desk.say("has %d %d" % cell)]
                self.assertEqual(told.split(" ")[0], asked)

    def test_taken_cells_of_a_thin_deed_stay_taken(self):
        desk = desk_with((square(3, 3), False))
        self.says(desk, "thin", "ok", "count", "1", "back", "ok", "count", "9")
        self.assertEqual(without(desk.shape(), (0, 0))[0], square(3, 3)[1:])


if __name__ == "__main__":
    unittest.main()
