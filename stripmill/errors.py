"""The refusals: each a class of its own under MillError, none under another one."""


class MillError(ValueError):
    pass


class NoMeasure(MillError):
    pass


class BadCount(MillError):
    pass


class BadName(MillError):
    pass


class Twice(MillError):
    pass


class BadSize(MillError):
    pass


class BadNumber(MillError):
    pass


class NoDeed(MillError):
    pass


class NoStage(MillError):
    pass


class BadStep(MillError):
    pass


class BadPlan(MillError):
    pass


# The two below call no base's __init__: Python keeps what they are called with as the error's words by itself.


class BadGiven(MillError):

    def __init__(self, name):
        self.name = name


class BadText(MillError):

    def __init__(self, row):
        self.row = row
