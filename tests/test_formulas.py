"""Points 4 and 5, and what point 2 says of numbers and of what is told and handed in."""

import random
import unittest

from stripmill.formulas import behind, is_measure, is_number, reads_of, rest, worth

GREAT = 10 ** 60 - 1
A = ("read", "a", 0, 0)
B = ("read", "b", 1, -2)
C = ("read", "c", -3, 3)
DEEDS_OF_TWO = ("sum", "less", "times", "least", "most")


def parts(formula):
    return [part for part in formula[1:] if isinstance(part, tuple)]


def tuples_in(formula):
    return 1 + sum(tuples_in(part) for part in parts(formula))


def depth(formula):
    return 1 + max([depth(part) for part in parts(formula)], default=0)


def leaf(chance):
    word = chance.choice(("number", "x", "y", "read", "read", "read"))
    if word == "number":
        return ("number", chance.choice((0, 1, chance.randrange(20), 10 ** 60 - 1)))
    if word == "read":
        return ("read", chance.choice(("a", "bb", "stage")), chance.randint(-3, 3), chance.randint(-3, 3))
    return (word,)


def grown(chance, deep):
    if deep == 1 or chance.random() < 0.25:
        return leaf(chance)
    deed = chance.choice(DEEDS_OF_TWO + ("pick",))
    return (deed,) + tuple(grown(chance, deep - 1) for place in range(3 if deed == "pick" else 2))


def plain_reads(formula):
    if formula[0] == "read":
        yield formula[1:]
    for part in parts(formula):
        yield from plain_reads(part)


def plain_worth(formula, measure, x, y, told):
    """Works the formula out; told is an iterator over what the reads tell."""
    word, behind = formula[0], formula[1:]
    if word in ("number", "x", "y", "read"):
        number = behind[0] if word == "number" else x if word == "x" else y if word == "y" else next(told)
        return number - number // measure * measure
    got = [plain_worth(part, measure, x, y, told) for part in behind]
    answers = {
        "sum": lambda a, b: (a + b) % measure,
        "less": lambda a, b: (a + measure - b) % measure,
        "times": lambda a, b: a * b % measure,
        "least": lambda a, b: a if a < b else b,
        "most": lambda a, b: b if a < b else a,
        "pick": lambda a, b, c: b if a else c,
    }
    return answers[word](*got)


def number(n):
    return ("number", n)


def chain_of_seven(inner):
    """Seven deeds around one formula: 8 deep where it is one deep."""
    formula = inner
    for place, deed in enumerate(("sum", "less", "times", "most", "least", "sum", "less")):
        formula = (deed, formula, ("read", "abcdefg"[place], place - 3, 3 - place))
    return formula


def tree(size, names):
    """A formula of so many tuples, an odd number; its leaves are reads, their names taken from the left."""
    if size == 1:
        return ("read", names.pop(0), 0, 0)
    left = (size - 1) // 2
    left = left if left % 2 else left - 1
    return ("sum", tree(left, names), tree(size - 1 - left, names))


def sixty():
    names = ["n" + "abcdefghijklmnopqrstuvwxyzabcdefgh"[k] for k in range(31)]
    return ("pick", tree(19, names), tree(19, names), tree(21, names))


class Measures(unittest.TestCase):

    def test_measures_and_numbers_that_are_none(self):
        for good in (2, 3, 10, 10 ** 60 - 1, 10 ** 60):
            self.assertIs(is_measure(good), True, good)
        for bad in (1, 0, -1, -2, -10 ** 60, 10 ** 60 + 1):
            self.assertIs(is_measure(bad), False, bad)

    def test_numbers_of_a_formula(self):
        for good in (0, 1, GREAT):
            self.assertIs(is_number(good), True, good)
        for bad in (-1, -GREAT, 10 ** 60):
            self.assertIs(is_number(bad), False, bad)

    def test_rest(self):
        wanted = {-11: 9, -10: 0, -1: 9, 0: 0, 9: 9, 10: 0, 123: 3}
        for told, left in wanted.items():
            self.assertEqual(rest(told, 10), left)
        self.assertEqual(rest(-1, 10 ** 60), GREAT)
        self.assertEqual(rest(10 ** 60, 10 ** 60), 0)

    def test_how_many_stand_behind_a_word(self):
        wanted = {"number": 1, "x": 0, "y": 0, "read": 3, "sum": 2, "less": 2, "times": 2, "least": 2, "most": 2,
                  "pick": 3}
        for word, many in wanted.items():
            self.assertEqual(behind(word), many, word)
        for word in ("", "add", "Sum", "sum ", "z", "reads"):
            self.assertIsNone(behind(word))


class ReadsOf(unittest.TestCase):

    def test_no_read(self):
        for formula in (("x",), ("y",), number(0), number(GREAT), ("sum", ("x",), number(3)),
                        ("pick", ("x",), ("y",), number(1))):
            self.assertEqual(reads_of(formula), [])

    def test_one_is_a_list_of_a_tuple(self):
        told = reads_of(("read", "base", -3, 2))
        self.assertEqual(told, [("base", -3, 2)])
        self.assertIs(type(told), list)
        self.assertIs(type(told[0]), tuple)

    def test_either_place_of_each_deed_of_two(self):
        for deed in DEEDS_OF_TWO:
            with self.subTest(deed):
                self.assertEqual(reads_of((deed, B, ("x",))), [("b", 1, -2)])
                self.assertEqual(reads_of((deed, number(1), B)), [("b", 1, -2)])
                self.assertEqual(reads_of((deed, C, A)), [("c", -3, 3), ("a", 0, 0)])

    def test_each_place_of_pick(self):
        self.assertEqual(reads_of(("pick", B, ("x",), ("y",))), [("b", 1, -2)])
        self.assertEqual(reads_of(("pick", ("x",), B, ("y",))), [("b", 1, -2)])
        self.assertEqual(reads_of(("pick", ("x",), ("y",), B)), [("b", 1, -2)])
        self.assertEqual(reads_of(("pick", C, B, A)), [("c", -3, 3), ("b", 1, -2), ("a", 0, 0)])

    def test_from_the_left_through_all_depths(self):
        formula = ("pick", ("sum", ("less", A, B), C), B, ("most", ("x",), ("pick", C, number(2), A)))
        self.assertEqual([name for name, dx, dy in reads_of(formula)], ["a", "b", "c", "b", "c", "a"])

    def test_the_same_read_twice_is_told_twice(self):
        self.assertEqual(reads_of(("times", B, B)), [("b", 1, -2), ("b", 1, -2)])
        self.assertEqual(reads_of(("pick", A, ("sum", A, A), A)), [("a", 0, 0)] * 4)

    def test_steps_of_either_sign(self):
        for dx in range(-3, 4):
            for dy in range(-3, 4):
                self.assertEqual(reads_of(("least", ("read", "q", dx, dy), ("x",))), [("q", dx, dy)])

    def test_eight_deep_and_sixty_tuples(self):
        deep = chain_of_seven(("read", "q", 0, 0))
        self.assertEqual(depth(deep), 8)
        self.assertEqual("".join([name for name, dx, dy in reads_of(deep)]), "qabcdefg")
        formula = sixty()
        self.assertEqual((tuples_in(formula), depth(formula) <= 8), (60, True))
        self.assertEqual(reads_of(formula), list(plain_reads(formula)))
        self.assertEqual(len(reads_of(formula)), 31)

    def test_what_is_told_is_the_askers_own(self):
        formula = ("sum", A, ("times", B, C))
        wanted = [("a", 0, 0), ("b", 1, -2), ("c", -3, 3)]
        told = reads_of(formula)
        told.append(("d", 1, 1))
        told[0] = None
        self.assertEqual(reads_of(formula), wanted)
        kept = reads_of(formula)
        reads_of(formula).clear()
        self.assertEqual(kept, wanted)
        lone = reads_of(A)
        lone.clear()
        self.assertEqual(reads_of(A), [("a", 0, 0)])
        none = reads_of(("x",))
        none.append("something")
        self.assertEqual(reads_of(("x",)), [])
        self.assertEqual(reads_of(("y",)), [])


class WorthOfPlainWords(unittest.TestCase):

    def test_number(self):
        self.assertEqual(worth(number(7), 10, 1, 2, []), 7)
        self.assertEqual(worth(number(0), 10, 1, 2, []), 0)
        self.assertEqual(worth(number(10), 10, 1, 2, []), 0)
        self.assertEqual(worth(number(123), 10, 1, 2, []), 3)
        self.assertEqual(worth(number(GREAT), 7, 1, 2, []), GREAT % 7)

    def test_x_and_y(self):
        for told, wanted in ((4, 4), (0, 0), (10, 0), (27, 7), (-1, 9), (-10, 0), (-100, 0), (-23, 7)):
            self.assertEqual(worth(("x",), 10, told, 5, []), wanted)
            self.assertEqual(worth(("y",), 10, 5, told, []), wanted)

    def test_read(self):
        for told, wanted in ((4, 4), (0, 0), (10, 0), (27, 7), (-1, 9), (-10, 0), (-23, 7)):
            self.assertEqual(worth(A, 10, 5, 6, [told]), wanted)
        self.assertEqual(worth(("read", "base", 3, -3), 10, 5, 6, [8]), 8)

    def test_a_whole_number_is_told(self):
        for formula in (number(3), ("x",), ("y",), A, ("sum", A, A), ("most", A, A), ("pick", A, A, A)):
            self.assertIs(type(worth(formula, 2, 1, 1, [1, 1, 1])), int)


class WorthOfDeeds(unittest.TestCase):

    def told(self, deed, numbers, measure=10):
        return worth((deed, A, B, C)[:1 + len(numbers)], measure, 0, 0, numbers)

    def test_sum(self):
        for numbers, wanted in (([3, 4], 7), ([6, 4], 0), ([9, 9], 8), ([-1, -1], 8), ([0, 0], 0), ([25, 7], 2)):
            self.assertEqual(self.told("sum", numbers), wanted)

    def test_less(self):
        for numbers, wanted in (([7, 4], 3), ([4, 7], 7), ([0, 1], 9), ([5, 5], 0), ([-3, 12], 5), ([31, 2], 9)):
            self.assertEqual(self.told("less", numbers), wanted)

    def test_times(self):
        for numbers, wanted in (([3, 3], 9), ([7, 8], 6), ([0, 9], 0), ([-1, 3], 7), ([-1, -1], 1), ([12, 13], 6)):
            self.assertEqual(self.told("times", numbers), wanted)

    def test_least_and_most(self):
        for numbers in ([3, 8], [8, 3]):
            self.assertEqual(self.told("least", numbers), 3)
            self.assertEqual(self.told("most", numbers), 8)
        self.assertEqual(self.told("least", [4, 4]), 4)
        self.assertEqual(self.told("most", [4, 4]), 4)

    def test_pick(self):
        self.assertEqual(self.told("pick", [1, 5, 6]), 5)
        self.assertEqual(self.told("pick", [9, 5, 6]), 5)
        self.assertEqual(self.told("pick", [0, 5, 6]), 6)
        self.assertEqual(self.told("pick", [3, 15, 6]), 5)
        self.assertEqual(self.told("pick", [0, 5, -4]), 6)

    def test_least_and_most_go_by_what_formulas_are_worth(self):
        for numbers, least, most in (([12, 5], 2, 5), ([5, 12], 2, 5), ([-1, 3], 3, 9), ([3, -1], 3, 9),
                                     ([10, 9], 0, 9), ([-10, 1], 0, 1)):
            self.assertEqual(self.told("least", numbers), least)
            self.assertEqual(self.told("most", numbers), most)
        self.assertEqual(worth(("least", number(12), ("sum", number(3), number(2))), 10, 0, 0, []), 2)
        self.assertEqual(worth(("most", ("less", number(2), number(3)), number(18)), 10, 0, 0, []), 9)
        self.assertEqual(worth(("least", ("sum", number(9), number(4)), number(5)), 10, 0, 0, []), 3)
        self.assertEqual(worth(("most", ("x",), ("y",)), 10, 20, 1, []), 1)

    def test_pick_goes_by_what_its_first_formula_is_worth(self):
        for first in (10, -10, 0, 70, 10 ** 59):
            self.assertEqual(self.told("pick", [first, 5, 6]), 6)
        for first in (11, -9, -1):
            self.assertEqual(self.told("pick", [first, 5, 6]), 5)
        self.assertEqual(worth(("pick", ("sum", number(4), number(6)), number(1), number(2)), 10, 0, 0, []), 2)
        self.assertEqual(worth(("pick", ("times", number(4), number(5)), number(1), number(2)), 10, 0, 0, []), 2)
        self.assertEqual(worth(("pick", ("x",), number(1), number(2)), 10, -30, 0, []), 2)
        self.assertEqual(worth(("pick", number(10), number(1), number(2)), 10, 0, 0, []), 2)

    def test_reads_that_pick_does_not_take_have_their_numbers(self):
        formula = ("sum", ("pick", A, ("sum", B, B), ("times", C, C)), ("read", "d", 0, 0))
        self.assertEqual(worth(formula, 100, 0, 0, [1, 20, 3, 5, 6, 40]), 63)
        self.assertEqual(worth(formula, 100, 0, 0, [0, 20, 3, 5, 6, 40]), 70)
        chosen_by = ("pick", ("pick", A, B, C), A, B)
        self.assertEqual(worth(chosen_by, 10, 0, 0, [1, 0, 9, 4, 5]), 5)
        self.assertEqual(worth(chosen_by, 10, 0, 0, [0, 0, 9, 4, 5]), 4)

    def test_the_same_read_twice_has_two_numbers(self):
        self.assertEqual(worth(("less", A, A), 10, 0, 0, [7, 4]), 3)

    def test_reads_take_their_numbers_from_the_left(self):
        formula = ("less", ("less", A, ("less", B, C)), ("times", A, ("x",)))
        self.assertEqual(worth(formula, 1000, 2, 0, [500, 70, 6, 9]), 500 - (70 - 6) - 18)


class WorthAtTheBounds(unittest.TestCase):

    def test_measure_two(self):
        for a in range(-3, 4):
            for b in range(-3, 4):
                bits = (a % 2, b % 2)
                self.assertEqual(worth(("sum", A, B), 2, 0, 0, [a, b]), bits[0] ^ bits[1])
                self.assertEqual(worth(("less", A, B), 2, 0, 0, [a, b]), bits[0] ^ bits[1])
                self.assertEqual(worth(("times", A, B), 2, 0, 0, [a, b]), bits[0] & bits[1])
                self.assertEqual(worth(("least", A, B), 2, 0, 0, [a, b]), bits[0] & bits[1])
                self.assertEqual(worth(("most", A, B), 2, 0, 0, [a, b]), bits[0] | bits[1])
                self.assertEqual(worth(("pick", A, B, number(1)), 2, 0, 0, [a, b]), bits[1] if bits[0] else 1)

    def test_the_greatest_measure(self):
        most = 10 ** 60
        self.assertEqual(worth(number(GREAT), most, 0, 0, []), GREAT)
        self.assertEqual(worth(("x",), most, -1, 0, []), GREAT)
        self.assertEqual(worth(("sum", A, number(1)), most, 0, 0, [GREAT]), 0)
        self.assertEqual(worth(("sum", A, B), most, 0, 0, [GREAT, GREAT]), most - 2)
        self.assertEqual(worth(("less", number(0), number(GREAT)), most, 0, 0, []), 1)
        self.assertEqual(worth(("times", A, B), most, 0, 0, [GREAT, GREAT]), 1)
        self.assertEqual(worth(("times", A, B), most, 0, 0, [10 ** 30 + 1, 10 ** 30 + 1]), 2 * 10 ** 30 + 1)
        self.assertEqual(worth(("least", A, B), most, 0, 0, [GREAT, GREAT - 1]), GREAT - 1)
        self.assertEqual(worth(("most", A, B), most, 0, 0, [-GREAT, 2]), 2)
        self.assertEqual(worth(("pick", A, B, C), most, 0, 0, [GREAT, 1, 2]), 1)

    def test_numbers_of_sixty_figures_of_either_sign(self):
        for told in (GREAT, -GREAT, 10 ** 59, -10 ** 59, int("123456789012345678901234567890" * 2)):
            for measure in (2, 10, 97, 10 ** 30 + 7, 10 ** 60):
                wanted = told - told // measure * measure
                self.assertEqual(worth(("x",), measure, told, 1, []), wanted)
                self.assertEqual(worth(("y",), measure, 1, told, []), wanted)
                self.assertEqual(worth(A, measure, 1, 1, [told]), wanted)
                self.assertEqual(worth(("sum", A, ("x",)), measure, 1, 1, [told]), (wanted + 1) % measure)
                self.assertEqual(worth(("times", A, B), measure, 1, 1, [told, told]), wanted * wanted % measure)

    def test_eight_deep(self):
        formula = chain_of_seven(("x",))
        self.assertEqual(depth(formula), 8)
        numbers = [5, 11, 3, 20, 90, 17, 40]
        self.assertEqual(worth(formula, 100, 30, 0, numbers), ((30 + 5 - 11) * 3 + 17 - 40) % 100)
        self.assertEqual(worth(formula, 100, 30, 0, [5, 11, 3, 20, 50, 17, 80]), (50 + 17 - 80) % 100)

    def test_sixty_tuples(self):
        formula = sixty()
        self.assertEqual((tuples_in(formula), depth(formula) <= 8), (60, True))
        numbers = [k * k - 40 for k in range(31)]
        first, second, third = numbers[:10], numbers[10:20], numbers[20:]
        self.assertEqual(worth(formula, 10 ** 9, 0, 0, numbers), sum(second))
        self.assertNotEqual(sum(first), 0)
        first[0] -= sum(first)
        self.assertEqual(worth(formula, 10 ** 9, 0, 0, first + second + third), sum(third))

    def test_somewhat_beyond_the_bounds_nothing_is_refused(self):
        formula = ("x",)
        for k in range(80):
            formula = ("sum", formula, A)
        self.assertEqual(len(reads_of(formula)), 80)
        self.assertEqual(worth(formula, 10 ** 61, 7, 0, list(range(80))), 7 + 79 * 40)
        self.assertEqual(worth(("sum", number(10 ** 70), ("y",)), 10, 0, -10 ** 70 - 1, []), 9)
        self.assertEqual(reads_of(("read", "Some longer text", 9, -44)), [("Some longer text", 9, -44)])


class WorthLeavesThings(unittest.TestCase):

    def test_the_list_handed_in_stays(self):
        numbers = [11, -5, 7, 0]
        formula = ("sum", ("pick", A, B, C), A)
        first = worth(formula, 10, 0, 0, numbers)
        self.assertEqual(numbers, [11, -5, 7, 0])
        self.assertEqual(worth(formula, 10, 0, 0, numbers), first)
        self.assertEqual(numbers, [11, -5, 7, 0])

    def test_an_empty_list_stays_empty(self):
        numbers = []
        worth(("sum", ("x",), ("y",)), 10, 1, 2, numbers)
        self.assertEqual(numbers, [])


class AgainstASecondWay(unittest.TestCase):

    def test_many_formulas(self):
        chance = random.Random(4)
        for turn in range(1500):
            formula = grown(chance, chance.randint(1, 5))
            wanted = list(plain_reads(formula))
            self.assertEqual(reads_of(formula), wanted)
            measure = chance.choice((2, 3, 7, 10, 256, 10 ** 60))
            numbers = [chance.choice((0, measure, chance.randint(-20, 20), chance.randint(-GREAT, GREAT)))
                       for read in wanted]
            x, y = chance.randint(-100, 200), chance.randint(-100, 200)
            told = worth(formula, measure, x, y, numbers)
            self.assertEqual(told, plain_worth(formula, measure, x, y, iter(numbers)), formula)
            self.assertTrue(0 <= told < measure)


if __name__ == "__main__":
    unittest.main()
