"""The parts of a row of a text, taken from the left, the row being refused where a part isn't of the wanted form."""

from stripmill.errors import BadText
from stripmill.formulas import behind
from stripmill.names import is_word

MOST_FIGURES = 61
MOST_STEP_FIGURES = 3


class RowParts:

    def __init__(self, row, text):
        self.row = row
        # With a blank ahead of each closing bracket it is a part of its own, and one blank parts all parts; where one
        # stood there already, the empty part that comes of it is of no form. The first part stands last, to be popped.
        self.left = list(reversed(text.replace(")", " )").split(" ")))

    def check(self, holds):
        if not holds:
            raise BadText(self.row)

    def take(self):
        self.check(len(self.left) > 0)
        return self.left.pop()

    def take_just(self, wanted):
        self.check(self.take() == wanted)

    def take_end(self):
        self.check(len(self.left) == 0)

    def take_name(self):
        name = self.take()
        self.check(is_word(name))
        return name

    def take_number(self):
        part = self.take()
        self.check(are_figures(part, MOST_FIGURES))
        return int(part)

    def take_step(self):
        part = self.take()
        figures = part[1:] if part.startswith("-") else part
        self.check(are_figures(figures, MOST_STEP_FIGURES) and part != "-0")
        return int(part)

    def take_formula(self):
        opening = self.take()
        word = opening[1:]
        self.check(opening.startswith("(") and behind(word) is not None)
        formula = tuple([word] + self.take_behind(word))
        self.take_just(")")
        return formula

    def take_behind(self, word):
        if word == "number":
            return [self.take_number()]
        if word == "read":
            return [self.take_name(), self.take_step(), self.take_step()]
        return [self.take_formula() for place in range(behind(word))]


def are_figures(text, most):
    return 1 <= len(text) <= most and all([is_figure(sign) for sign in text]) and (text == "0" or text[0] != "0")


def is_figure(sign):
    # Not isdigit: it lets by signs that int does not read.
    return "0" <= sign <= "9"
