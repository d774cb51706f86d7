"""What is promised over the whole program."""

import copy
import importlib
import inspect
import random
import unittest

from edgemoss import errors
from edgemoss.desk import Desk
from edgemoss.pictures import drawn, read_picture
from edgemoss.plans import Both, Eat, Either, Everything, Grow, Keep, Move, Nothing, Plan, closing, opening
from edgemoss.reading import plan_text, read_plan
from edgemoss.shapes import outside
from edgemoss.turns import back_of, turned
from plain import BOUND, PAIR, RINGS, SPIRAL, singles, some_plans, some_shapes, square, text_of, window

ARGUMENTS = {
    "shapes": {
        "made": "cells rest", "has": "shape cell", "within": "one other", "both": "one other", "either": "one other",
        "outside": "shape", "moved": "shape step", "counted": "shape",
    },
    "turns": {"turned_cell": "cell turn", "turned": "shape turn", "back_of": "turn", "turned_on": "one other"},
    "pieces": {
        "made_piece": "cells", "mirrored": "piece", "turned_piece": "piece turn", "summed": "one other",
        "times": "piece many", "whole_at": "shape piece cell", "clear_at": "shape piece cell",
    },
    "growing": {name: "shape piece" for name in ("grown", "eaten", "opened", "closed")},
    "papers": {
        "why_left": "shape piece cell", "why_filled": "shape piece cell", "left_right": "shape piece cell told",
        "filled_right": "shape piece cell told",
    },
    "marks": {
        "marks": "shape piece", "sure": "shape piece", "fewest": "shape piece", "fewer_paper": "shape piece",
        "fewer_right": "shape piece many tree",
    },
    "sieves": {"sifts": "one other", "moved_by": "one other"},
    "sizes": {
        "levels": "shape piece most", "size_of": "shape piece cell most", "counts": "shape piece most",
        "band": "shape piece low high",
    },
    "plans": {
        "opening": "piece plan", "closing": "piece plan", "after": "one other", "many_in": "plan", "deep": "plan",
        "reach": "plan",
    },
    "reading": {"plan_text": "plan", "read_plan": "text", "plan_from": "words at"},
    "least": {"least_pieces": "plan", "bars": "plan", "crossed": "sets"},
    "answers": {"answer": "plan shape cell", "answer_right": "plan shape cell told"},
    "compare": {"inside": "one other", "alike": "one other", "again": "plan"},
    "kinds": {name: "plan" for name in ("adds", "loses", "opening_by", "closing_by")},
    "parts": {"parts": "shape", "part_of": "shape cell", "holes": "shape", "surplus": "shape"},
    "loose": {
        "is_loose": "shape cell", "why_loose": "shape cell", "may_come": "shape cell", "loose_cells": "shape",
    },
    "thinning": {
        "thinned": "shape kept", "thinning_right": "shape kept taken", "left_by": "shape taken",
        "undone": "left taken many",
    },
    "nests": {"nest": "shape", "lies_in": "shape", "held_by": "shape"},
    "pictures": {"drawn": "shape top left rows columns", "read_picture": "text top left"},
}
DEFAULTS = {"made": [False], "read_picture": [0, 0]}
CLASSES = {
    Keep: "", Nothing: "", Everything: "", Move: "step plan", Eat: "piece plan", Grow: "piece plan", Both: "one other",
    Either: "one other",
}
METHODS = {"done": "shape", "about": "", "by_turn": "turn", "parts_in": "", "words": ""}
PLAN = opening(PAIR, Keep())
BAR = (((0, 0), (0, 1), (0, 2), (5, 5)), False)
FOUR = (square(1, 4), False)
LACKS = (((0, 0), (0, 1)), True)


def asked(name):
    """The function of this name."""
    for module in ARGUMENTS:
        if name in ARGUMENTS[module]:
            return getattr(importlib.import_module("edgemoss." + module), name)


def calls():
    """Each function of the interface with arguments, some with several."""
    tree = asked("fewer_paper")(FOUR, PAIR)
    taken = asked("thinned")(RINGS, [])
    left = asked("left_by")(RINGS, taken)
    told = [("made", [(2, 1), (0, 0), (2, 1)]), ("made", [], True), ("has", BAR, (0, 0)), ("has", LACKS, (0, 0))]
    told += [(name, BAR, LACKS) for name in ("within", "both", "either")]
    told += [("outside", BAR), ("moved", BAR, (1, 1)), ("counted", BAR), ("counted", LACKS), ("back_of", 3)]
    told += [("turned_cell", (1, 2), 5), ("turned", BAR, 6), ("turned_on", 1, 4), ("made_piece", [(0, 1), (0, 0)])]
    told += [("mirrored", PAIR), ("turned_piece", PAIR, 1), ("summed", PAIR, PAIR), ("times", PAIR, 3)]
    told += [(name, BAR, PAIR, (0, 0)) for name in ("whole_at", "clear_at", "why_left", "why_filled")]
    told += [("why_left", BAR, PAIR, (5, 5)), ("why_filled", BAR, PAIR, (0, 3))]
    told += [(name, shape, PAIR) for name in ("grown", "eaten", "opened", "closed") for shape in (BAR, LACKS)]
    told += [("left_right", BAR, PAIR, (5, 5), ("goes", [((5, 5), (5, 6)), ((5, 4), (5, 4))]))]
    told += [("filled_right", BAR, PAIR, (0, 0), ("comes", [(0, 0), (0, 1)]))]
    told += [(name, FOUR, PAIR) for name in ("marks", "sure", "fewest", "fewer_paper")]
    told += [("fewer_right", FOUR, PAIR, 1, tree), ("sifts", square(1, 3), PAIR), ("sifts", PAIR, square(1, 3))]
    told += [("moved_by", PAIR, ((5, 5), (5, 6))), ("levels", BAR, PAIR, 3), ("size_of", BAR, PAIR, (0, 0), 3)]
    told += [("counts", BAR, PAIR, 3), ("band", BAR, PAIR, 0, 2), ("opening", PAIR, Keep()), ("after", PLAN, PLAN)]
    told += [("closing", PAIR, Keep()), ("plan_text", PLAN), ("read_plan", "both keep none")]
    told += [("plan_from", ["x", "keep", "y"], 1), ("crossed", [PAIR, ((0, 1), (0, 2))]), ("inside", PLAN, Keep())]
    told += [("inside", Keep(), PLAN), ("alike", PLAN, Keep()), ("alike", PLAN, PLAN)]
    told += [(name, PLAN) for name in ("many_in", "deep", "reach", "least_pieces", "bars", "again")]
    told += [(name, plan) for name in ARGUMENTS["kinds"] for plan in (PLAN, closing(PAIR, Keep()), Everything())]
    told += [("answer", PLAN, BAR, (0, 0)), ("answer_right", PLAN, BAR, (0, 0), ("piece", PAIR))]
    told += [(name, shape) for name in ("parts", "holes", "surplus", "loose_cells") for shape in (RINGS, SPIRAL)]
    told += [(name, shape) for name in ARGUMENTS["nests"] for shape in (RINGS, SPIRAL)]
    told += [("part_of", RINGS, (0, 0)), ("is_loose", RINGS, (0, 0)), ("why_loose", RINGS, (0, 0))]
    told += [("why_loose", RINGS, (0, 1)), ("may_come", RINGS, (1, 1)), ("thinned", SPIRAL, [(0, 0), (9, 9)])]
    told += [("thinned", RINGS, []), ("thinning_right", RINGS, [], taken), ("left_by", RINGS, taken)]
    told += [("undone", left, taken, 2), ("drawn", BAR, 0, 0, 3, 4), ("read_picture", "#.\n.#", 1)]
    return told


def refusals():
    """What is refused, and by which class, of each function that refuses something."""
    tall = (((0, 0), (40, 0)), False)
    many = singles(61)
    odd = tuple((k, k * k) for k in range(12))
    rest = LACKS
    return {
        "BadCell": [("made", [(0, 0), 7]), ("made", [(0, BOUND + 1)]), ("undone", BAR, [(0, 0)], 1)],
        "BadPiece": [("made_piece", []), ("made_piece", None), ("made_piece", [[0, 0]]), ("made_piece", square(1, 13))],
        "BadTurn": [
            ("turned_cell", (0, 0), 8), ("turned", BAR, -1), ("back_of", 8), ("turned_on", 0, 9), ("turned_on", -1, 0),
            ("turned_piece", PAIR, 8),
        ],
        "TooMany": [
            ("made", square(20, 21)), ("summed", square(20, 20), PAIR), ("times", odd, 6), ("levels", BAR, odd, 6),
            ("size_of", BAR, odd, (0, 0), 6), ("counts", BAR, odd, 6), ("band", BAR, odd, 6, 6),
            ("fewest", (square(1, 14), False), PAIR), ("fewer_paper", (square(1, 14), False), PAIR),
            ("opening", PAIR, some_deep(11)), ("closing", PAIR, some_deep(11)), ("after", some_deep(8), some_deep(8)),
            ("least_pieces", many), ("bars", many.about()), ("crossed", [square(1, 8), square(9, 1)[1:]]),
            ("answer", many, BAR, (0, 0)), ("answer_right", many, BAR, (0, 0), ("piece", ())), ("inside", many, PLAN),
            ("alike", PLAN, many), ("again", many), ("adds", many), ("loses", many.about()), ("opening_by", many),
            ("closing_by", many.about()), ("undone", BAR, [], 1), ("undone", BAR, [(0, 0)], -1),
            ("reach", Grow(odd, Grow(square(12, 1, 99), Grow(square(1, 12, 9999), Grow(odd, Keep()))))),
        ],
        "Endless": [(name, rest, PAIR) for name in ("marks", "sure", "fewest", "fewer_paper")] + [
            ("fewer_right", rest, PAIR, 0, ((0, 0), [])), ("counts", rest, PAIR, 1), ("parts", rest), ("holes", rest),
            ("part_of", rest, (5, 5)), ("surplus", rest), ("loose_cells", rest), ("thinned", rest, []),
            ("thinning_right", rest, [], []), ("left_by", rest, []), ("undone", rest, [], 0), ("nest", rest),
            ("lies_in", rest), ("held_by", rest),
        ],
        "TooWide": [("holes", tall), ("nest", tall), ("lies_in", tall), ("held_by", tall)],
        "NoCell": [
            ("size_of", BAR, PAIR, (9, 9), 2), ("part_of", BAR, (9, 9)), ("is_loose", BAR, (9, 9)),
            ("why_loose", BAR, (9, 9)), ("may_come", BAR, (0, 0)), ("left_by", BAR, [(9, 9)]),
        ],
        "NoMarks": [("sure", BAR, PAIR), ("fewest", BAR, PAIR), ("fewer_paper", BAR, PAIR)],
        "NoText": [("read_plan", "x"), ("plan_from", ["keep", "x"], 1), ("read_picture", "")],
    }


def some_deep(levels):
    plan = Keep()
    for _ in range(levels - 1):
        plan = Move((0, 0), plan)
    return plan


def plain_value(thing):
    """With plans told by their texts, so that it can be held against others."""
    if isinstance(thing, Plan):
        return ("a plan", text_of(thing))
    if isinstance(thing, (list, tuple)):
        return type(thing)(map(plain_value, thing))
    return thing


def lists_in(thing):
    if not isinstance(thing, (list, tuple)):
        return []
    return [thing] * isinstance(thing, list) + [some for part in thing for some in lists_in(part)]


class Interface(unittest.TestCase):

    def test_names_and_arguments(self):
        for module, names in ARGUMENTS.items():
            for name, arguments in names.items():
                function = getattr(importlib.import_module("edgemoss." + module), name)
                values = inspect.signature(function).parameters.values()
                self.assertEqual([value.name for value in values], arguments.split(), name)
                defaults = [value.default for value in values if value.default is not inspect.Parameter.empty]
                self.assertEqual(defaults, DEFAULTS.get(name, []), name)

    def test_plans(self):
        for kind, fields in CLASSES.items():
            self.assertEqual(kind.__bases__, (Plan,))
            values = [Keep() for _ in fields.split()]
            plan = kind(*values)
            for field, value in zip(fields.split(), values):
                self.assertIs(getattr(plan, field), value)
            for method, arguments in METHODS.items():
                self.assertEqual(list(inspect.signature(getattr(plan, method)).parameters), arguments.split())

    def test_desk(self):
        desk = Desk()
        self.assertEqual(list(inspect.signature(desk.say).parameters), ["row"])
        self.assertEqual(list(inspect.signature(desk.shape).parameters), [])
        self.assertEqual(list(inspect.signature(Desk).parameters), [])

    def test_each_function_is_called_here(self):
        names = {name for some in ARGUMENTS.values() for name in some}
        self.assertEqual({call[0] for call in calls()}, names)


class Refusals(unittest.TestCase):
    """0.4"""

    def test_each_of_its_own_class_alone(self):
        for refusal, some in refusals().items():
            for name, *handed in some:
                kept = plain_value(copy.deepcopy(handed))
                with self.assertRaises(errors.MossError, msg=name) as caught:
                    asked(name)(*handed)
                self.assertIs(type(caught.exception), getattr(errors, refusal), (name, handed))
                self.assertEqual(plain_value(handed), kept)

    def test_methods_of_plans(self):
        grows = Grow(square(12, 1, 9), Grow(square(1, 12, 9), Keep()))
        self.assertRaises(errors.TooMany, grows.done, (square(4, 4), False))
        for plan in (Keep(), PLAN, Both(Nothing(), Everything())):
            for turn in (-1, 8):
                self.assertRaises(errors.BadTurn, plan.by_turn, turn)

    def test_at_a_desk(self):
        far = "put 0 %d" % BOUND
        for rows, refusal in [
            (["x"], "NoText"), ([7], "NoText"), (["back"], "BadDeed"), (["put 0 0", "put 40 0", "holes"], "TooWide"),
            (["out", "holes"], "Endless"), (["out", "parts"], "Endless"), (["out", "thin"], "Endless"),
            ([far, "do grow 2 0 0 0 1 keep"], "TooMany"), ([far, "move 0 1"], "TooMany"),
            (["why 0 0 " + text_of(singles(61))], "TooMany"), (["same keep " + text_of(singles(61))], "TooMany"),
        ]:
            desk = Desk()
            for row in rows[:-1]:
                desk.say(row)
            with self.assertRaises(errors.MossError) as caught:
                desk.say(rows[-1])
            self.assertIs(type(caught.exception), getattr(errors, refusal), rows)


class HandedAndTold(unittest.TestCase):
    """0.2"""

    def test_what_is_handed_in_stays_and_is_told_alike_again(self):
        for name, *handed in calls():
            kept = plain_value(copy.deepcopy(handed))
            first = asked(name)(*handed)
            told = plain_value(copy.deepcopy(first))
            self.assertEqual(plain_value(handed), kept, name)
            self.assertEqual(plain_value(asked(name)(*handed)), told, name)
            for some in lists_in(first):
                some.append("spoilt")
            self.assertEqual(plain_value(asked(name)(*handed)), told, name)
            self.assertEqual(plain_value(handed), kept, name)

    def test_no_two_lists_that_are_told_are_one(self):
        for name, *handed in calls():
            told = [asked(name)(*handed), asked(name)(*handed)]
            lists = lists_in(told[0]) + lists_in(told[1])
            self.assertEqual(len({id(some) for some in lists}), len(lists), name)
            handed_lists = {id(some) for some in lists_in(handed)}
            self.assertFalse(handed_lists & {id(some) for some in lists}, name)

    def test_what_is_done_with_it_behind_the_call_changes_nothing(self):
        for name, *handed in calls():
            mine = copy.deepcopy(handed)
            told = asked(name)(*mine)
            kept = plain_value(copy.deepcopy(told))
            for some in lists_in(mine):
                some.clear()
            self.assertEqual(plain_value(told), kept, name)
            self.assertEqual(plain_value(asked(name)(*handed)), kept, name)

    def test_rows_may_be_tuples(self):
        """0.5: where a row is handed in, it is a list or a tuple."""
        places = {
            "made": [0], "made_piece": [0], "plan_from": [0], "crossed": [0], "thinned": [1], "thinning_right": [1, 2],
            "left_by": [1], "undone": [1],
        }
        for name, *handed in calls():
            others = [tuple(part) if k in places.get(name, []) else part for k, part in enumerate(handed)]
            self.assertEqual(plain_value(asked(name)(*others)), plain_value(asked(name)(*handed)), name)

    def test_methods_of_plans(self):
        for plan in some_plans(221, 40):
            text = text_of(plan)
            for ask in (plan.parts_in, plan.words):
                told = ask()
                kept = plain_value(told)
                told.clear()
                self.assertEqual(plain_value(ask()), kept)
            self.assertEqual(text_of(plan.about()), text_of(plan.about()))
            self.assertEqual(text_of(plan.by_turn(3)), text_of(plan.by_turn(3)))
            self.assertEqual(plan.done(BAR), plan.done(BAR))
            self.assertEqual(text_of(plan), text)


class AllInOne(unittest.TestCase):

    def setUp(self):
        self.plans = [PLAN, closing(PAIR, Keep())] + some_plans(222, 50, many=9, deep=7)
        self.shapes = some_shapes(223, 8, most=12)

    def desk_with(self, shape, top=-4, left=-4):
        """By a picture that is read and put; the rest by out."""
        desk = Desk()
        for cell in read_picture(drawn((shape[0], False), top, left, 9, 9), top, left)[0]:
            self.assertEqual(desk.say("put %d %d" % cell), "ok")
        if shape[1]:
            desk.say("out")
        self.assertEqual(desk.shape(), shape)
        return desk

    def test_all_come_to_one_shape(self):
        dice = random.Random(224)
        for plan in self.plans:
            for shape in self.shapes:
                made = plan.done(shape)
                desk = self.desk_with(shape)
                self.assertEqual(desk.say("do " + plan_text(plan)), "ok")
                self.assertEqual(desk.shape(), made)
                self.assertEqual(read_plan(plan_text(plan)).done(shape), made)
                self.assertEqual(outside(plan.about().done(outside(shape))), made)
                turn = dice.randint(0, 7)
                self.assertEqual(turned(plan.by_turn(turn).done(turned(shape, turn)), back_of(turn)), made)
                for row in ("back", "out", "do " + plan_text(plan.about()), "out"):
                    self.assertEqual(desk.say(row), "ok")
                self.assertEqual(desk.shape(), made)
                for _ in range(3):
                    desk.say("back")
                for row in ("turn %d" % turn, "do " + plan_text(plan.by_turn(turn)), "turn %d" % back_of(turn)):
                    self.assertEqual(desk.say(row), "ok")
                self.assertEqual(desk.shape(), made)

    def test_a_picture_shown_is_read_and_put(self):
        for shape in self.shapes:
            desk = self.desk_with(shape)
            text = desk.say("show -4 -4 9 9")
            self.assertEqual(text, drawn(shape, -4, -4, 9, 9))
            other = self.desk_with(read_picture(text, -4, -4))
            self.assertEqual(other.say("show -4 -4 9 9"), text)

    def test_why_tells_piece_just_where_has_tells_yes_behind_do(self):
        met = {"piece": 0, "bar": 0}
        for plan in self.plans:
            for shape in self.shapes[2:]:
                desk = self.desk_with(shape)
                cells = window([shape], 2)[::5]
                try:
                    words = [desk.say("why %d %d %s" % (cell + (plan_text(plan),))).split(" ")[0] for cell in cells]
                except errors.TooMany:
                    continue
                desk.say("do " + plan_text(plan))
                for cell, word in zip(cells, words):
                    self.assertEqual(desk.say("has %d %d" % cell), {"piece": "yes", "bar": "no"}[word])
                    met[word] += 1
        self.assertGreater(min(met.values()), 500)

    def test_same_tells_a_shape_by_which_they_part(self):
        dice = random.Random(225)
        met = 0
        for _ in range(100):
            plans = [dice.choice(self.plans), dice.choice(self.plans)]
            desk = Desk()
            try:
                told = desk.say("same " + " ".join(map(plan_text, plans))).split(" ")
            except errors.TooMany:
                continue
            if told == ["same"]:
                for shape in self.shapes:
                    self.assertEqual(plans[0].done(shape), plans[1].done(shape))
                continue
            met += 1
            for row, column in zip(told[2::2], told[3::2]):
                desk.say("put %s %s" % (row, column))
            middles = []
            for plan in plans:
                desk.say("do " + plan_text(plan))
                middles.append(desk.say("has 0 0"))
                desk.say("back")
            self.assertEqual(middles, ["yes", "no"] if told[1] == "first" else ["no", "yes"])
        self.assertGreater(met, 40)


if __name__ == "__main__":
    unittest.main()
