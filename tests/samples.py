"""Things that several tests hand in."""

from decimal import Decimal
from fractions import Fraction


class AlikeToAll:
    """Says that it is the same as whatever it is held against."""

    def __eq__(self, other):
        return True

    def __hash__(self):
        return 0


class AlikeToNone:
    """Can't be held against anything."""

    def __eq__(self, other):
        raise RuntimeError("not to be held against anything")

    __hash__ = None


class LikeANumber:
    """Can be turned into a whole number, but is none."""

    def __int__(self):
        return 1

    def __index__(self):
        return 1


def unit():
    return (1, 1)


def things_not_whole():
    return [
        None, True, False, "", "1", "on", b"1", bytearray(b"1"), [], [1], (), (1,), (1, 1), {}, {1: 1}, {1},
        frozenset([1]), range(2), object(), int, tuple, len, unit, Fraction(1), Decimal(1), AlikeToAll(),
        AlikeToNone(), LikeANumber(), NotImplemented, ...,
    ]


def things_no_ratio():
    """Of every kind, no one of them a fraction."""
    wrong = [thing for thing in things_not_whole() if not is_unit(thing)]
    wrong += [0, 1, -1, 10 ** 200]
    wrong += [(2, 4), (0, 2), (0, -1), (1, 0), (0, 0), (1, -1), (-1, -1), (-2, 4), (3, 3), (10 ** 110, 10 ** 109)]
    wrong += [(1,), (1, 1, 1), (), [1, 1], [0, 1], "11", "1/1", {0: 1, 1: 1}, ((1, 1), (1, 1)), ((1, 1), 1)]
    for thing in things_not_whole():
        wrong += [(thing, 1), (1, thing), (thing, thing)]
    return wrong


def is_unit(thing):
    return isinstance(thing, tuple) and thing == (1, 1)


def fraction(a):
    return Fraction(a[0], a[1])


def told(number):
    """A Fraction as the program tells it."""
    number = Fraction(number)
    return (number.numerator, number.denominator)
