"""Measures, and formulas: which reads stand in one, and what it is worth in a cell."""

# How many stand behind each word: behind these, numbers and texts; behind a deed, formulas.
PLAIN_WORDS = {"number": 1, "x": 0, "y": 0, "read": 3}
DEEDS = {"sum": 2, "less": 2, "times": 2, "least": 2, "most": 2, "pick": 3}


def is_measure(number):
    return 2 <= number <= 10 ** 60


def is_number(number):
    return 0 <= number < 10 ** 60


def rest(number, measure):
    return number % measure


def behind(word):
    if word in DEEDS:
        return DEEDS[word]
    return PLAIN_WORDS.get(word)


def formulas_in(formula):
    if formula[0] in DEEDS:
        return list(formula[1:])
    return []


def reads_of(formula):
    if formula[0] == "read":
        return [(formula[1], formula[2], formula[3])]
    reads = []
    for part in formulas_in(formula):
        reads.extend(reads_of(part))
    return reads


def worth(formula, measure, x, y, numbers):
    # A copy with the first number last: each read takes its own off the end, and what was handed in stays.
    return worth_with(formula, measure, x, y, list(reversed(numbers)))


def worth_with(formula, measure, x, y, left):
    word = formula[0]
    if word == "number":
        return rest(formula[1], measure)
    if word == "x":
        return rest(x, measure)
    if word == "y":
        return rest(y, measure)
    if word == "read":
        return rest(left.pop(), measure)
    # All formulas of a pick are worked out, also the one it does not take: its reads have numbers in the list.
    worths = []
    for part in formulas_in(formula):
        worths.append(worth_with(part, measure, x, y, left))
    return deed_worth(word, worths, measure)


def deed_worth(deed, worths, measure):
    if deed == "sum":
        return rest(worths[0] + worths[1], measure)
    if deed == "less":
        return rest(worths[0] - worths[1], measure)
    if deed == "times":
        return rest(worths[0] * worths[1], measure)
    if deed == "least":
        return min(worths)
    if deed == "most":
        return max(worths)
    return worths[2] if worths[0] == 0 else worths[1]
