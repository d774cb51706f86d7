import copy
import random
import unittest

from edgemoss.errors import NoText
from edgemoss.plans import Both, Eat, Either, Everything, Grow, Keep, Move, Nothing, Plan, deep, many_in
from edgemoss.reading import plan_from, plan_text, read_plan
from plain import (
    NO_NUMBERS, NO_PLANS, each_kind, kind_of, plain_read, put_together, some_plans, text_of,
)


class Asked(unittest.TestCase):

    def check_no(self, text, at):
        with self.assertRaises(NoText, msg=text) as caught:
            read_plan(text)
        self.assertEqual(caught.exception.at, at, text)

    def check_no_words(self, words, start, at):
        with self.assertRaises(NoText, msg=words) as caught:
            plan_from(words, start)
        self.assertEqual(caught.exception.at, at, words)


class Written(unittest.TestCase):
    """5.9"""

    def test_of_each_kind(self):
        for plan, asked in [
            (Keep(), "keep"), (Nothing(), "none"), (Everything(), "all"), (Move((0, -7), Keep()), "move 0 -7 keep"),
            (Eat(((-2, 10), (0, 0)), Nothing()), "eat 2 -2 10 0 0 none"), (Grow(((5, 5),), Keep()), "grow 1 5 5 keep"),
            (Both(Keep(), Nothing()), "both keep none"), (Either(Everything(), Keep()), "either all keep"),
        ]:
            told = plan_text(plan)
            self.assertIs(type(told), str)
            self.assertEqual(told, asked)

    def test_of_others(self):
        for plan in put_together() + some_plans(91, 100, many=40, deep=12, most=12, span=9):
            self.assertEqual(plan_text(plan), text_of(plan))


class Read(Asked):
    """5.10"""

    def test_of_each_kind(self):
        for plan in put_together() + some_plans(92, 200, many=40, deep=12, most=12, span=9):
            told = read_plan(text_of(plan))
            self.assertIsInstance(told, Plan)
            self.assertEqual(text_of(told), text_of(plan))

    def test_fields(self):
        told = read_plan("move -1 2 eat 2 0 0 0 1 keep")
        self.assertEqual((kind_of(told), told.step, kind_of(told.plan)), ("Move", (-1, 2), "Eat"))
        self.assertEqual((told.plan.piece, kind_of(told.plan.plan)), (((0, 0), (0, 1)), "Keep"))
        told = read_plan("either none grow 1 -5 0 all")
        self.assertEqual((kind_of(told.one), kind_of(told.other)), ("Nothing", "Grow"))
        self.assertEqual((told.other.piece, kind_of(told.other.plan)), (((-5, 0),), "Everything"))
        told = read_plan("both keep none")
        self.assertEqual((kind_of(told), kind_of(told.one), kind_of(told.other)), ("Both", "Keep", "Nothing"))

    def test_edges_of_numbers(self):
        for text in (
            "move 1000000 -1000000 keep", "eat 1 -1000000 1000000 keep", "move 0 0 keep",
            "grow 12 " + " ".join(f"0 {k}" for k in range(12)) + " keep",
        ):
            self.assertEqual(text_of(read_plan(text)), text)

    def test_from_a_place_on_with_words_left_behind(self):
        for plan in put_together():
            words = text_of(plan).split(" ")
            for ahead, behind in [([], []), (["x", "keep"], []), ([], ["keep", "y"]), ([""], ["", ""])]:
                for row in (ahead + words + behind, tuple(ahead + words + behind)):
                    told = plan_from(row, len(ahead))
                    self.assertTrue(type(told) is tuple and len(told) == 2 and type(told[1]) is int)
                    self.assertEqual(text_of(told[0]), text_of(plan))
                    self.assertEqual(told[1], len(ahead) + len(words))

    def test_one_behind_the_other(self):
        words = "keep both none all grow 1 2 2 keep".split(" ")
        places = [0]
        while places[-1] < len(words):
            places.append(plan_from(words, places[-1])[1])
        self.assertEqual(places, [0, 1, 4, 9])


class Refused(Asked):
    """5.10"""

    def test_a_word_that_is_none_of_the_eight(self):
        for word in NO_PLANS:
            for ahead, behind in [([], []), (["both"], ["keep"]), (["both", "keep"], []), (["move", "1", "1"], [])]:
                words = ahead + [word] + behind
                self.check_no_words(words, 0, len(ahead))
                self.check_no_words(["keep", "keep"] + words, 2, len(ahead) + 2)
        self.check_no("bothkeep keep", 0)
        self.check_no("eat 1 0 0 x", 4)
        self.check_no("grow 2 0 0 0 1 0", 6)

    def test_no_number_of_steps(self):
        for word in NO_NUMBERS + ["0", "13", "-1", "12000", "012", "9" * 6000, "-" + "9" * 6000, "0" * 5000 + "1"]:
            for first in ("eat", "grow"):
                self.check_no_words([first, word, "0", "0", "keep"], 0, 1)
                self.check_no_words(["both", "keep", first, word, "0", "0", "keep"], 0, 3)

    def test_no_row_or_column(self):
        for word in NO_NUMBERS + ["1000001", "-1000001", "01000000", "10000000", "9" * 6000, "-" + "9" * 6000]:
            self.check_no_words(["move", word, "0", "keep"], 0, 1)
            self.check_no_words(["move", "0", word, "keep"], 0, 2)
            self.check_no_words(["move", word, word, "keep"], 0, 1)
            for first in ("eat", "grow"):
                self.check_no_words([first, "1", word, "0", "keep"], 0, 2)
                self.check_no_words([first, "1", "0", word, "keep"], 0, 3)
                self.check_no_words([first, "2", "0", "0", word, "1", "keep"], 0, 4)
                self.check_no_words([first, "2", "0", "0", "0", word, "keep"], 0, 5)

    def test_a_step_not_greater_than_the_one_ahead_of_it(self):
        self.check_no("eat 2 0 0 0 0 keep", 4)
        self.check_no("grow 2 0 1 0 0 keep", 4)
        self.check_no("eat 2 1 0 0 5 keep", 4)
        self.check_no("eat 3 0 0 0 1 0 1 keep", 6)
        self.check_no("both keep grow 3 -1 0 0 -5 -1 7 keep", 8)
        # Its column is looked at first, though no column could do.
        self.check_no("eat 2 1 0 0 x keep", 5)
        self.check_no("eat 2 1 0 0", 5)
        self.check_no("eat 2 1 0 0 1000001 keep", 5)
        self.assertEqual(text_of(read_plan("eat 3 -1 9 0 -9 0 -8 keep")), "eat 3 -1 9 0 -9 0 -8 keep")

    def test_words_that_end_too_early(self):
        for plan in put_together() + some_plans(93, 30, many=12, deep=6):
            words = text_of(plan).split(" ")
            for many in range(len(words)):
                self.check_no_words(words[:many], 0, many)
                self.check_no_words(["x", "y"] + words[:many], 2, many + 2)
                if many > 0:
                    self.check_no(" ".join(words[:many]), many)

    def test_no_word_at_all(self):
        self.check_no_words([], 0, 0)
        self.check_no_words((), 0, 0)
        self.check_no_words(["keep", "keep"], 2, 2)

    def test_a_forty_first_plan(self):
        # Five levels of pairs are 31 plans, and nine are about them.
        forty = ["move", "0", "0", "both"] + self.pairs(5) + "both keep either keep both keep keep".split(" ")
        self.assertEqual(many_in(plan_from(forty, 0)[0]), 40)
        more = ["both"] + forty + ["keep"]
        # With the first word one more has begun, so that the last word of the forty is the forty-first.
        self.check_no_words(more, 0, len(forty))
        self.check_no_words(["x"] + more, 1, len(forty) + 1)
        self.check_no_words(["either", "keep"] + forty[:-1] + ["x"], 0, len(forty))
        self.check_no_words(["both"] + forty[:-1], 0, len(forty))

    def pairs(self, levels):
        if levels == 1:
            return ["keep"]
        return ["either"] + self.pairs(levels - 1) + self.pairs(levels - 1)

    def test_forty_one_of_them_begin_behind_one_another(self):
        """However the plans lie, the word with which the forty-first begins is refused."""
        dice = random.Random(94)
        met = 0
        for _ in range(300):
            words, begun, todo = [], 0, [1]
            while todo:
                level = todo.pop()
                first = dice.choice(["both", "either"] if level < 7 else ["keep", "none", "all"])
                begun += 1
                if begun == 41:
                    self.check_no_words(words + [first, "keep", "keep"], 0, len(words))
                    met += 1
                    break
                words.append(first)
                if first in ("both", "either"):
                    todo += [level + 1, level + dice.randint(1, 3)]
        self.assertGreater(met, 100)

    def test_one_thirteen_deep(self):
        twelve = ["move", "0", "0"] * 11 + ["keep"]
        self.assertEqual(deep(plan_from(twelve, 0)[0]), 12)
        for last in ("keep", "none", "all", "move", "eat", "both", "x"):
            self.check_no_words(["move", "0", "0"] * 12 + [last], 0, 36)
            self.check_no_words(["both", "keep"] + ["grow", "1", "0", "0"] * 11 + [last], 0, 46)
            self.check_no_words(["both"] + ["grow", "1", "0", "0"] * 11 + [last, "keep"], 0, 45)
        # What stands ahead of the thirteenth is looked at first.
        self.check_no_words(["move", "0", "0"] * 11 + ["move", "0", "x", "keep"], 0, 35)
        self.check_no_words(["move", "0", "0"] * 12, 0, 36)

    def test_blanks(self):
        self.check_no("", 0)
        self.check_no(" ", 0)
        self.check_no(" keep", 0)
        self.check_no("keep ", 1)
        self.check_no("both  keep keep", 1)
        self.check_no("both keep  keep", 2)
        self.check_no("move  1 1 keep", 1)
        self.check_no("move 1  1 keep", 2)
        self.check_no("eat 1 0 0  keep", 4)
        self.check_no("both keep keep ", 3)
        self.check_no(" " * 20000, 0)

    def test_a_word_left_behind(self):
        for plan in each_kind():
            text = text_of(plan)
            many = len(text.split(" "))
            for more in (" keep", " x", " ", "  ", " both keep keep", " 0"):
                self.check_no(text + more, many)

    def test_other_signs_part_no_words(self):
        for sign in "\t\n!~_,.":
            self.check_no("both" + sign + "keep keep", 0)
        self.check_no("keep" * 5000, 0)

    def test_against_the_plain_reckoning(self):
        dice = random.Random(95)
        words = "keep none all move eat grow both either 0 1 2 3 -1 -0 12 13 01 x 1000000 -1000000 1000001".split(" ")
        met = {"plan": 0, "no": 0}
        for _ in range(4000):
            row = text_of(some_plans(dice.randrange(10 ** 6), 1, many=7)[0]).split(" ")
            for _ in range(dice.randint(0, 2)):
                place = dice.randrange(len(row))
                row[place:place + dice.randint(0, 2)] = [dice.choice(words) for _ in range(dice.randint(0, 2))]
                row = row or ["both"]
            start = dice.randint(0, 1) * dice.randint(0, len(row))
            asked = plain_read(row, start)
            met[asked[0]] += 1
            if asked[0] == "no":
                self.check_no_words(row, start, asked[1])
            else:
                told = plan_from(row, start)
                self.assertEqual((text_of(told[0]), told[1]), asked[1:])
        self.assertGreater(min(met.values()), 1000)


class Handed(unittest.TestCase):
    """0.2"""

    def test_what_is_handed_in_stays_and_is_not_kept(self):
        words = text_of(Both(*each_kind()[3:5])).split(" ")
        kept = copy.deepcopy(words)
        plan = plan_from(words, 0)[0]
        self.assertEqual(words, kept)
        words.clear()
        self.assertEqual(plan.words(), kept)

    def test_asked_again(self):
        for plan in put_together():
            self.assertEqual(plan_text(read_plan(plan_text(plan))), plan_text(plan))


if __name__ == "__main__":
    unittest.main()
