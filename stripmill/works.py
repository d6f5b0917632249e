"""Works: a measure, pictures, and stages made of what stands above them."""

from stripmill.errors import BadCount, BadName, BadNumber, BadSize, BadStep, NoDeed, NoMeasure, NoStage, Twice
from stripmill.formulas import behind, formulas_in, is_measure, is_number
from stripmill.names import is_name

MOST_PICTURES = 4
MOST_STAGES = 8
LONGEST_SIDE = 40
LONGEST_STEP = 3


class Works:

    # Whatever is put here is checked just ahead of it, so that what is above is what has been put here so far.
    def __init__(self, measure, pictures, stages):
        check_measure(measure)
        self.measure = measure
        self.sizes = {}
        self.rims = {}
        self.formulas = {}
        check_count(pictures, MOST_PICTURES)
        for name, width, height, rim in pictures:
            check_new(name, self.names())
            check_sides(width, height)
            check_number(rim)
            self.sizes[name] = (width, height)
            self.rims[name] = rim
        check_count(stages, MOST_STAGES)
        for name, formula in stages:
            check_new(name, self.names())
            check_formula(formula, self.names())
            self.formulas[name] = formula

    def names(self):
        return self.pictures() + self.stages()

    def pictures(self):
        return list(self.sizes)

    def stages(self):
        return list(self.formulas)

    def size(self, picture):
        check_above(picture, self.sizes)
        return self.sizes[picture]

    def rim(self, picture):
        check_above(picture, self.rims)
        return self.rims[picture]

    def formula(self, stage):
        check_above(stage, self.formulas)
        return self.formulas[stage]


def check_known(works, name):
    check_above(name, works.names())


def check_above(name, above):
    if name not in above:
        raise NoStage("no picture or stage that may stand here has this name")


def check_measure(measure):
    if not is_measure(measure):
        raise NoMeasure("a measure is from 2 to 10 ** 60")


def check_count(things, most):
    if not 1 <= len(things) <= most:
        raise BadCount(f"at least one, at most {most}")


def check_new(name, above):
    if not is_name(name):
        raise BadName("a name is one to twelve letters from a to z")
    if name in above:
        raise Twice("a picture or stage above has this name")


def check_sides(width, height):
    if not (1 <= width <= LONGEST_SIDE and 1 <= height <= LONGEST_SIDE):
        raise BadSize(f"width and height are from 1 to {LONGEST_SIDE}")


def check_number(number):
    if not is_number(number):
        raise BadNumber("a number is from 0 to 10 ** 60 less one")


def check_formula(formula, above):
    word = formula[0]
    wanted = behind(word)
    if wanted is None:
        raise NoDeed("no formula begins with this word")
    # Ahead of whatever stands behind the word: in another count it is not looked into.
    if len(formula) != 1 + wanted:
        raise BadCount(f"behind {word} stand {wanted}")
    if word == "number":
        check_number(formula[1])
    if word == "read":
        check_above(formula[1], above)
        check_steps(formula[2], formula[3])
    for part in formulas_in(formula):
        check_formula(part, above)


def check_steps(dx, dy):
    if abs(dx) > LONGEST_STEP or abs(dy) > LONGEST_STEP:
        raise BadStep(f"dx and dy are from -{LONGEST_STEP} to {LONGEST_STEP}")
