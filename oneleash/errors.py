"""The refusals of the program, one class each."""


class LeashError(ValueError):
    pass


class NoRatio(LeashError):
    pass


class NoLine(LeashError):
    pass


class NoPlace(LeashError):
    pass


class NoWay(LeashError):
    pass


class NoWalk(LeashError):
    pass


class NoFence(LeashError):
    pass


class NoSquare(LeashError):
    pass


class NoLines(LeashError):
    pass


class NoText(LeashError):
    pass


class NoName(LeashError):
    pass


class Twice(LeashError):
    pass


class TooMany(LeashError):
    pass


class NoRow(LeashError):
    pass


class NoDeed(LeashError):
    pass
