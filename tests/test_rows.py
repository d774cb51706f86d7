import random
import unittest

from edgemoss.desk import Desk
from edgemoss.errors import BadDeed, MossError, NoText
from plain import BOUND, FAR_STEP, NO_NUMBERS, NO_PLANS, plain_number, plain_read, some_plans, text_of

KINDS = {
    "put": "RC", "take": "RC", "move": "RC", "turn": "K", "out": "", "do": "P", "thin": "", "back": "", "has": "RC",
    "count": "", "show": "TLMN", "why": "RCP", "same": "PP", "parts": "", "holes": "", "deeds": "",
}
BOUNDS = {"K": (0, 7), "M": (1, 40), "N": (1, 40)}
BOUNDS.update({sign: (-BOUND, BOUND) for sign in "RCTL"})
GOOD = {
    "put": "put 1 -2", "take": "take 1 -2", "move": "move 3 4", "turn": "turn 5", "out": "out",
    "do": "do either keep eat 2 0 0 0 1 keep", "thin": "thin", "back": "back", "has": "has 0 0", "count": "count",
    "show": "show -1 -1 3 4", "why": "why 0 1 both keep move 1 -1 keep", "same": "same keep grow 1 0 0 keep",
    "parts": "parts", "holes": "holes", "deeds": "deeds",
}


def plain_fault(row):
    """10.3 word by word: the number of the first word that can't stand there, None where there is none."""
    words = row.split(" ")
    if words[0] not in KINDS:
        return 0
    place = 1
    for sign in KINDS[words[0]]:
        if place == len(words):
            return place
        if sign == "P":
            told = plain_read(words, place)
            if told[0] == "no":
                return told[1]
            place = told[2]
        else:
            if not plain_number(words[place], *BOUNDS[sign]):
                return place
            place += 1
    return place if place < len(words) else None


def busy_desk():
    """One with a few cells, and deeds that may be taken back."""
    desk = Desk()
    for row in ("put 0 0", "put 0 1", "put 1 1"):
        desk.say(row)
    return desk


class Asked(unittest.TestCase):

    def setUp(self):
        self.desk = busy_desk()

    def check_no(self, row, at):
        ahead = self.desk.shape(), self.desk.say("deeds")
        with self.assertRaises(NoText, msg=row) as caught:
            self.desk.say(row)
        self.assertEqual(caught.exception.at, at, row)
        self.assertIs(type(caught.exception.at), int)
        self.assertEqual((self.desk.shape(), self.desk.say("deeds")), ahead)


class Words(Asked):
    """10.3"""

    def test_each_row_is_one(self):
        self.assertEqual(set(GOOD), set(KINDS))
        for row in GOOD.values():
            self.assertIsNone(plain_fault(row))
            self.assertIs(type(busy_desk().say(row)), str)

    def test_a_first_word_that_is_none_of_these(self):
        for word in ("x", "Put", "PUT", "puts", "pu", "keep", "none", "all", "eat", "grow", "both", "either", "-", "0",
                     "1", "shape", "say", "undo", "yes", "ok", "endless", "#", ".", "put,", "out.", "'out'", "turned"):
            self.check_no(word, 0)
            self.check_no(word + " 0 0", 0)
            self.check_no(word + " keep", 0)
            self.check_no(word + " ", 0)

    def test_an_empty_row(self):
        self.check_no("", 0)
        self.check_no(" ", 0)
        self.check_no("   ", 0)

    def test_blanks_ahead_behind_and_side_by_side(self):
        for row in GOOD.values():
            words = row.split(" ")
            self.check_no(" " + row, 0)
            self.check_no("  " + row, 0)
            self.check_no(row + " ", len(words))
            self.check_no(row + "  ", len(words))
            for place in range(1, len(words)):
                self.check_no(" ".join(words[:place]) + "  " + " ".join(words[place:]), place)

    def test_a_word_left_behind(self):
        for row in GOOD.values():
            for more in ("0", "keep", "x", "0 0", "none none", "out"):
                self.check_no(row + " " + more, len(row.split(" ")))

    def test_a_row_that_ends_too_early_at_each_place(self):
        for row in GOOD.values():
            words = row.split(" ")
            for many in range(1, len(words)):
                self.check_no(" ".join(words[:many]), many)

    def test_line_feeds_part_no_words(self):
        for row in GOOD.values():
            words = row.split(" ")
            self.check_no("\n" + row, 0)
            if len(words) == 1:
                self.check_no(row + "\n", 0)
            else:
                self.check_no(row + "\n", len(words) - 1)
                self.check_no(row.replace(" ", "\n", 1), 0)
        self.check_no("\n", 0)
        self.check_no("put\n1 2", 0)
        self.check_no("put 1\n2", 1)
        self.check_no("out\nout", 0)

    def test_each_word_of_each_row_spoilt(self):
        for row in GOOD.values():
            words = row.split(" ")
            for place in range(len(words)):
                for bad in ("", "x", "Keep", "+1", "1.5", "--2", "-0", "007", "~"):
                    self.check_no(" ".join(words[:place] + [bad] + words[place + 1:]), place)


class Numbers(Asked):
    """10.2, 10.3"""

    def rows_with(self, sign):
        """Each place at which such a number stands: the words ahead of it, and those behind it."""
        for word, row in GOOD.items():
            for place, kind in enumerate(KINDS[word]):
                if kind == sign:
                    words = row.split(" ")
                    yield words[:place + 1], words[place + 2:]

    def test_what_writes_no_number(self):
        for sign in "RCTLKMN":
            for ahead, behind in self.rows_with(sign):
                for bad in NO_NUMBERS:
                    if " " not in bad:
                        self.check_no(" ".join(ahead + [bad] + behind), len(ahead))

    def test_just_at_the_bounds_and_beyond(self):
        met = set()
        for sign, (least, most) in BOUNDS.items():
            for ahead, behind in self.rows_with(sign):
                for good in (least, least + 1, most - 1, most):
                    row = " ".join(ahead + [str(good)] + behind)
                    try:
                        self.assertIs(type(busy_desk().say(row)), str)
                    except NoText:
                        self.fail(row)
                    except MossError:
                        pass
                for bad in (least - 1, most + 1, most * 10, -most - 1, 10 ** 100, -10 ** 100):
                    self.check_no(" ".join(ahead + [str(bad)] + behind), len(ahead))
                met.add((ahead[0], sign))
        self.assertEqual(len(met), 5 * 2 + 4 + 1)

    def test_numbers_with_very_many_figures(self):
        self.check_no("put " + "9" * 3900 + " 0", 1)
        self.check_no("put 0 -" + "1" * 3900, 2)
        self.check_no("put " + "0" * 3900 + "1 0", 1)
        self.check_no("turn " + "7" * 3900, 1)
        self.check_no("do move " + "7" * 3900 + " 0 keep", 2)

    def test_those_of_plans_have_bounds_of_their_own(self):
        step = str(FAR_STEP + 1)
        self.assertEqual(self.desk.say("put %s -%s" % (step, step)), "ok")
        self.check_no("do move %s 0 keep" % step, 2)
        self.check_no("why %s 0 move 0 -%s keep" % (step, step), 5)
        self.check_no("same eat 1 0 %s keep keep" % step, 4)
        self.assertEqual(self.desk.say("do move %d %d keep" % (FAR_STEP, -FAR_STEP)), "ok")


class Plans(Asked):
    """5.10 within 10.3"""

    def check_plans(self, text, at):
        """The plan's text in each row that has one, at counted from its first word."""
        for ahead in ("do ", "why 0 -1 ", "same ", "same keep ", "same both keep none "):
            self.check_no(ahead + text, at + len(ahead.split(" ")) - 1)

    def test_faults(self):
        for bad in NO_PLANS:
            if " " not in bad:
                self.check_plans(bad, 0)
                self.check_plans("both keep " + bad, 2)
        for text, at in [
            ("move x 0 keep", 1), ("move 0 1000001 keep", 2), ("move 0 keep", 2), ("eat 0 keep", 1), ("eat 13 0 0", 1),
            ("grow 1 0 x keep", 3), ("grow 2 0 0 0 0 keep", 4), ("eat 2 0 1 0 0 keep", 4), ("eat 2 0 1 0 x keep", 5),
            ("eat 2 0 1 -1000001 0 keep", 4), ("either", 1), ("both keep", 2), ("grow 2 0 0", 4), ("eat", 1),
            ("move 0", 2), ("eat 3 0 0 0 1 0 2", 8), ("", 0),
        ]:
            self.check_plans(text, at)

    def test_a_forty_first_plan(self):
        """Each plan of same may have forty by itself."""
        def pairs(levels):
            return "both " + pairs(levels - 1) + " " + pairs(levels - 1) if levels else "keep"

        less = "either move 0 0 move 0 0 %s both move 0 0 move 0 0 move 0 0 %s move 0 0 keep" % (pairs(3), pairs(3))
        forty = "move 0 0 " + less
        many = sum(word in ("keep", "move", "both", "either") for word in forty.split(" "))
        self.assertEqual(many, 40)
        self.assertEqual(plain_read(forty.split(" "), 0)[0], "plan")
        self.assertEqual(self.desk.say("same %s %s" % (forty, forty)), "same")
        self.assertEqual(self.desk.say("do " + forty), "ok")
        more = "move 0 0 " + forty
        at = len(more.split(" ")) - 1
        self.check_plans(more, at)
        self.check_no("same " + more + " keep", at + 1)
        self.check_no("same " + forty + " " + more, len(forty.split(" ")) + 1 + at)

    def test_one_thirteen_deep(self):
        twelve = "move 0 0 " * 11 + "keep"
        self.assertEqual(self.desk.say("same %s %s" % (twelve, twelve)), "same")
        self.check_plans("move 0 0 " + twelve, 36)

    def test_a_word_left_behind_a_plan(self):
        self.check_no("do keep keep", 2)
        self.check_no("why 0 0 keep keep", 4)
        self.check_no("same keep keep keep", 3)
        self.check_no("same keep", 2)
        self.check_no("same", 1)
        self.check_no("do both keep keep ", 4)


class Against(Asked):

    def test_the_plain_reckoning(self):
        dice = random.Random(191)
        words = list(KINDS) + "keep none all eat grow both either 0 1 -1 2 12 13 40 41 7 8 -0 01 x".split(" ") + [""]
        words += [str(BOUND), str(-BOUND - 1), "1000000", "1000001"]
        plans = [text_of(plan) for plan in some_plans(192, 60, many=5)]
        met = {}
        for _ in range(6000):
            row = self.some_row(dice, words, plans)
            at = plain_fault(row)
            met[at is None] = met.get(at is None, 0) + 1
            if at is not None:
                self.check_no(row, at)
                continue
            try:
                self.assertIs(type(self.desk.say(row)), str)
            except NoText:
                self.fail(row)
            except MossError:
                pass
        self.assertGreater(min(met.values()), 500)

    def some_row(self, dice, words, plans):
        first = dice.choice(list(KINDS))
        row = [first]
        for kind in KINDS[first]:
            row += dice.choice(plans).split(" ") if kind == "P" else [str(dice.randint(1, 7))]
        for _ in range(dice.randint(0, 2)):
            place = dice.randint(0, len(row) - 1)
            row[place:place + dice.randint(0, 1)] = [dice.choice(words)] * dice.randint(0, 2)
            row = row or [""]
        return " ".join(row)


class NoTexts(Asked):
    """10.3"""

    def test_what_is_no_text(self):
        class Odd:
            def __eq__(self, other):
                raise RuntimeError

            def __len__(self):
                raise RuntimeError

        things = [
            None, True, False, 0, 1, -7, 10 ** 30, b"out", bytearray(b"out"), [], ["out"], (), ("out",), ("put", 0, 0),
            {}, {"out": "out"}, set(), frozenset(["out"]), object(), str, len, Odd(), Odd, [["out"]], range(3), self,
            self.desk, NoText(3), iter("out"), lambda: "out", NotImplemented, ...,
        ]
        for thing in things:
            self.check_no_thing(thing)

    def check_no_thing(self, thing):
        ahead = self.desk.shape(), self.desk.say("deeds")
        with self.assertRaises(NoText) as caught:
            self.desk.say(thing)
        self.assertEqual(caught.exception.at, 0)
        self.assertEqual((self.desk.shape(), self.desk.say("deeds")), ahead)

    def test_ahead_of_bad_deed(self):
        desk = Desk()
        self.assertRaises(BadDeed, desk.say, "back")
        for row, at in (("back ", 1), ("back 1", 1), (" back", 0), ("backs", 0)):
            with self.assertRaises(NoText) as caught:
                desk.say(row)
            self.assertEqual(caught.exception.at, at)


if __name__ == "__main__":
    unittest.main()
