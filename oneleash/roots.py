"""Numbers with a root: tuples (p, q, r, s) that stand for (p + q times the root of r) / s."""

from oneleash.errors import NoRatio
from oneleash.ratios import ratio


def sign_of(number):
    if number > 0:
        return 1
    if number < 0:
        return -1
    return 0


def signed_square(number):
    # Squares that keep the sign stand in the same order as the numbers themselves.
    return number * abs(number)


def sign_with_root(whole, part, under):
    # The sign of whole + part * root of under.
    return sign_of(signed_square(whole) + signed_square(part) * under)


def sign_with_roots(whole, part, under, share, below):
    # The sign of whole + part * root of under + share * root of below.
    roots = sign_of(signed_square(part) * under + signed_square(share) * below)
    if sign_of(whole) * roots >= 0:
        return sign_of(sign_of(whole) + roots)
    # They pull against one another, so the greater square wins; one root is left in their difference.
    even = whole * whole - part * part * under - share * share * below
    return sign_of(whole) * sign_with_root(even, -2 * part * share, under * below)


def root_order(one, other):
    whole = one[0] * other[3] - other[0] * one[3]
    return sign_with_roots(whole, one[1] * other[3], one[2], -other[1] * one[3], other[2])


def floor_root(number):
    # Newton's steps come down from above and never fall below the floor of the root.
    guess = 1 << ((number.bit_length() + 1) // 2)
    while guess * guess > number:
        guess = (guess + number // guess) // 2
    return guess


def own_fraction(number):
    under = number[1] * number[1] * number[2]
    root = floor_root(under)
    if root * root != under:
        raise NoRatio()
    return ratio(number[0] + sign_of(number[1]) * root, number[3])


def scaled_floor(number, scale):
    # The greatest whole number that isn't above scale times the number.
    under = scale * scale * number[1] * number[1] * number[2]
    root = floor_root(under)
    if number[1] < 0:
        root = -root if root * root == under else -root - 1
    return (scale * number[0] + root) // number[3]


def below_all(number, scale):
    # The greatest whole number that is less than scale times the number.
    turned = (-number[0], -number[1], number[2], number[3])
    return -scaled_floor(turned, scale) - 1


def shared_terms(low, high, scale):
    # The continued fraction of the simplest fraction from low / scale to high / scale.
    terms = []
    bottom = scale
    last = scale
    while True:
        term = low // bottom
        if term * bottom == low:
            terms.append(term)
            return terms
        if (term + 1) * last <= high:
            terms.append(term + 1)
            return terms
        terms.append(term)
        # Turning both rests over exchanges the lower and the upper end.
        low_rest = low - term * bottom
        high_rest = high - term * last
        low = last
        high = bottom
        bottom = high_rest
        last = low_rest


def fraction_of_terms(terms):
    top = terms[-1]
    bottom = 1
    for term in reversed(terms[:-1]):
        rest = bottom
        bottom = top
        top = term * top + rest
    return ratio(top, bottom)


def fraction_within(one, other):
    bits = 1
    while True:
        scale = 1 << bits
        low = scaled_floor(one, scale) + 1
        high = below_all(other, scale)
        if low + 2 <= high:
            # With some room the simplest fraction has few figures, however fine the scale had to be.
            return fraction_of_terms(shared_terms(low, high, scale))
        bits = bits * 2


def root_between(one, other):
    order = root_order(one, other)
    if order > 0:
        # Nothing is promised here, but the search for a fraction would never end.
        raise NoRatio()
    if order == 0:
        return own_fraction(one)
    return fraction_within(one, other)
