"""Plans written as texts, and read out of words."""

from edgemoss.errors import NoText
from edgemoss.pieces import FARTHEST_STEP, MOST_STEPS
from edgemoss.plans import DEEPEST, MOST_PLANS, Both, Eat, Either, Everything, Grow, Keep, Move, Nothing

FIGURES = "0123456789"
FIRST_WORDS = ("keep", "none", "all", "move", "eat", "grow", "both", "either")


def plan_text(plan):
    return " ".join(plan.words())


def read_plan(text):
    reader = Reader(text.split(" "), 0)
    plan = reader.whole_plan()
    reader.check_end()
    return plan


def plan_from(words, at):
    reader = Reader(words, at)
    plan = reader.whole_plan()
    return (plan, reader.place)


# None where the word does not write such a number. How long it may be is asked ahead of reading it, since Python does
# not read numbers of any length.
def number_in(word, least, most):
    figures = word[1:] if word.startswith("-") else word
    if figures == "" or len(figures) > len(str(most)) or any([sign not in FIGURES for sign in figures]):
        return None
    number = int(word)
    if str(number) != word or number < least or number > most:
        return None
    return number


# What has been read of a row of words: up to which place, and how many plans have begun in the one that is being read.
class Reader:

    def __init__(self, row, place):
        self.row = row
        self.place = place
        self.begun = 0

    def next_word(self):
        if self.place >= len(self.row):
            raise NoText(len(self.row))
        return self.row[self.place]

    def next_of(self, choices):
        word = self.next_word()
        if word not in choices:
            raise NoText(self.place)
        self.place = self.place + 1
        return word

    def check_end(self):
        if self.place < len(self.row):
            raise NoText(self.place)

    def next_number(self, least, most):
        number = number_in(self.next_word(), least, most)
        if number is None:
            raise NoText(self.place)
        self.place = self.place + 1
        return number

    def next_cell(self, farthest):
        row = self.next_number(-farthest, farthest)
        column = self.next_number(-farthest, farthest)
        return (row, column)

    def next_piece(self):
        many = self.next_number(1, MOST_STEPS)
        steps = []
        for time in range(many):
            place = self.place
            step = self.next_cell(FARTHEST_STEP)
            if time > 0 and step <= steps[-1]:
                raise NoText(place)
            steps.append(step)
        return tuple(steps)

    def whole_plan(self):
        self.begun = 0
        return self.next_plan(1)

    def first_word(self, level):
        if level > DEEPEST or self.begun == MOST_PLANS:
            raise NoText(self.place)
        self.begun = self.begun + 1
        return self.next_of(FIRST_WORDS)

    def next_plan(self, level):
        word = self.first_word(level)
        if word == "keep":
            return Keep()
        if word == "none":
            return Nothing()
        if word == "all":
            return Everything()
        if word == "move":
            step = self.next_cell(FARTHEST_STEP)
            return Move(step, self.next_plan(level + 1))
        if word in ("eat", "grow"):
            return self.plan_of_piece(word, level)
        return self.plan_of_two(word, level)

    def plan_of_piece(self, word, level):
        piece = self.next_piece()
        plan = self.next_plan(level + 1)
        if word == "eat":
            return Eat(piece, plan)
        return Grow(piece, plan)

    def plan_of_two(self, word, level):
        one = self.next_plan(level + 1)
        other = self.next_plan(level + 1)
        if word == "both":
            return Both(one, other)
        return Either(one, other)
