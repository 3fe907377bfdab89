"""Things that several tests hand in."""

from decimal import Decimal
from fractions import Fraction


class AlikeToAll:
    """Says that it is the same as whatever it is held against."""

    def __eq__(self, other):
        return True

    def __hash__(self):
        return 0


class AlikeToNone:
    """Can't be held against anything."""

    def __eq__(self, other):
        raise RuntimeError("not to be held against anything")

    __hash__ = None


class LikeANumber:
    """Can be turned into a whole number, but is none."""

    def __int__(self):
        return 1

    def __index__(self):
        return 1


def unit():
    return (1, 1)


def things_not_whole():
    return [
        None, True, False, "", "1", "on", b"1", bytearray(b"1"), [], [1], (), (1,), (1, 1), {}, {1: 1}, {1},
        frozenset([1]), range(2), object(), int, tuple, len, unit, Fraction(1), Decimal(1), AlikeToAll(),
        AlikeToNone(), LikeANumber(), NotImplemented, ...,
    ]


def things_no_ratio():
    """Of every kind, no one of them a fraction."""
    wrong = [thing for thing in things_not_whole() if not is_unit(thing)]
    wrong += [0, 1, -1, 10 ** 200]
    wrong += [(2, 4), (0, 2), (0, -1), (1, 0), (0, 0), (1, -1), (-1, -1), (-2, 4), (3, 3), (10 ** 110, 10 ** 109)]
    wrong += [(1,), (1, 1, 1), (), [1, 1], [0, 1], "11", "1/1", {0: 1, 1: 1}, ((1, 1), (1, 1)), ((1, 1), 1)]
    for thing in things_not_whole():
        wrong += [(thing, 1), (1, thing), (thing, thing)]
    return wrong


def is_unit(thing):
    return isinstance(thing, tuple) and thing == (1, 1)


def fraction(a):
    return Fraction(a[0], a[1])


def told(number):
    """A Fraction as the program tells it."""
    number = Fraction(number)
    return (number.numerator, number.denominator)


TOP = 10 ** 12 - 1

LINES = [
    [(0, 0)],
    [(TOP, -TOP)],
    [(3, 4), (3, 4)],
    [(0, 0), (4, 0)],
    [(0, 0), (4, 0), (4, 3)],
    [(1, 5), (1, 5), (-2, 7), (-2, 7), (-2, 7)],
    [(-TOP, -TOP), (TOP, TOP), (-TOP, TOP), (TOP, -TOP)],
    [(0, 0), (7, 1), (-3, 2), (7, 1), (0, 0), (5, -5)],
    [(k * k - 9, 11 - 3 * k) for k in range(10)],
]


def stretch_point(line, place):
    """The point of a place, by Python's own fractions."""
    place = fraction(place)
    number = min(int(place), max(len(line) - 2, 0))
    end = line[min(number + 1, len(line) - 1)]
    part = place - number
    return tuple(a + part * (b - a) for a, b in zip(line[number], end))


def square_at(one, x, other, y):
    a, b = stretch_point(one, x), stretch_point(other, y)
    return (a[0] - b[0]) ** 2 + (a[1] - b[1]) ** 2


def places_of(line):
    """Places at corners, amid stretches, and very near to corners."""
    last = len(line) - 1
    fine = 10 ** 108
    some = [Fraction(k) for k in range(last + 1)]
    for k in range(last):
        some += [k + Fraction(1, 2), k + Fraction(1, 3), k + Fraction(5, 7), k + Fraction(1, fine),
                 k + 1 - Fraction(1, fine)]
    return [told(place) for place in sorted(some)]


def things_no_place(line):
    """Of every kind, no one of them a place on the line."""
    last = len(line) - 1
    fine = 10 ** 108
    return things_no_ratio() + [(-1, 1), (-1, 2), (-1, fine), (last + 1, 1), (last * fine + 1, fine),
                                (2 * last + 1, 2), (2 * last, 2), (3 * last, 3), (-last - 1, 1), (10 ** 110, 1)]
