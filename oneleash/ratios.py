"""Fractions: tuples (top, bottom) in lowest terms, the bottom from 1 on."""

from oneleash.errors import NoRatio


def is_whole(thing):
    # True and False are ints to Python, but no whole numbers here.
    return isinstance(thing, int) and not isinstance(thing, bool)


def common_divisor(one, other):
    one = abs(one)
    other = abs(other)
    while other != 0:
        rest = one % other
        one = other
        other = rest
    return one


def ratio(top, bottom=1):
    if not is_whole(top) or not is_whole(bottom) or bottom == 0:
        raise NoRatio()
    divisor = common_divisor(top, bottom)
    if bottom < 0:
        divisor = -divisor
    return (top // divisor, bottom // divisor)


def plus(a, b):
    return ratio(a[0] * b[1] + b[0] * a[1], a[1] * b[1])


def minus(a, b):
    return ratio(a[0] * b[1] - b[0] * a[1], a[1] * b[1])


def times(a, b):
    return ratio(a[0] * b[0], a[1] * b[1])


def over(a, b):
    return ratio(a[0] * b[1], a[1] * b[0])


def less(a, b):
    return a[0] * b[1] < b[0] * a[1]


def floor_of(a):
    return a[0] // a[1]


def number_of_least(fractions):
    # Of several the least number.
    found = 0
    for number, fraction in enumerate(fractions):
        if less(fraction, fractions[found]):
            found = number
    return found


def number_of_greatest(fractions):
    return number_of_least([(-fraction[0], fraction[1]) for fraction in fractions])


def is_ratio(thing):
    if not isinstance(thing, tuple) or len(thing) != 2:
        return False
    if not is_whole(thing[0]) or not is_whole(thing[1]):
        return False
    return thing[1] >= 1 and common_divisor(thing[0], thing[1]) == 1
