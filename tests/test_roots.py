import random
import unittest
from decimal import Decimal, localcontext
from fractions import Fraction
from functools import lru_cache
from math import isqrt

from samples import fraction, told

from oneleash.errors import NoRatio
from oneleash.ratios import is_ratio
from oneleash.roots import root_between, root_order

BIG = 10 ** 110 - 1


@lru_cache(maxsize=None)
def value(number):
    """The number with a root, to more places than any two of the tests share."""
    with localcontext() as context:
        context.prec = 3000
        p, q, r, s = number
        return (Decimal(p) + Decimal(q) * Decimal(r).sqrt()) / Decimal(s)


def rounded(number):
    with localcontext() as context:
        context.prec = 3000
        return round(value(number), 2500)


def order_of(one, other):
    """By places behind the point; only of two that are known to differ."""
    return int(value(one).compare(value(other)))


def near_root(r, figures):
    """Whole numbers p, q with p / q next to the root of r, as near as that many figures let it be (r no square)."""
    whole = isqrt(r)
    m, d, a = 0, 1, whole
    before, now = (1, 0), (whole, 1)
    while True:
        m = d * a - m
        d = (r - m * m) // d
        a = (whole + m) // d
        after = (a * now[0] + before[0], a * now[1] + before[1])
        if after[0] >= 10 ** figures:
            return before, now
        before, now = now, after


def other_tellings(number):
    """The same number, told otherwise."""
    p, q, r, s = number
    some = [(7 * p, 7 * q, r, 7 * s), (10 ** 50 * p, 10 ** 50 * q, r, 10 ** 50 * s), (6 * p, 2 * q, 9 * r, 6 * s)]
    if q % 3 == 0:
        some.append((p, q // 3, 9 * r, s))
    if q == 0 or r == 0:
        some += [(p, 0, 5, s), (p, 0, 4, s), (p, 4, 0, s), (p, -4, 0, s), (p, 0, 0, s)]
    if isqrt(r) ** 2 == r:
        some += [(p + q * isqrt(r), 0, 3, s), (0, p + q * isqrt(r), 1, s), (p - isqrt(r), q + 1, r, s)]
    return [number] + some


def rooted_numbers():
    """Numbers that all differ from one another, each with what Python's decimals say of it."""
    some = [(0, 0, 0, 1), (1, 0, 0, 1), (-1, 0, 7, 1), (0, 1, 2, 1), (0, -1, 2, 1), (0, 1, 3, 1), (0, -1, 3, 1),
            (1, 1, 2, 1), (1, -1, 2, 1), (-1, 1, 2, 1), (3, 1, 5, 2), (3, -1, 5, 2), (-3, 1, 5, 2), (-3, -1, 5, 2),
            (0, 3, 4, 1), (0, -3, 4, 1), (1, 2, 9, 3), (1, -2, 9, 3), (5, 3, 0, 2), (1, 1, 2, 3), (2, 1, 3, 5),
            (BIG, 0, 0, 1), (-BIG, 0, 0, 1), (0, BIG, BIG, 1), (0, -BIG, BIG, 1), (BIG, BIG, BIG, 1),
            (BIG, -BIG, BIG, 1), (-BIG, BIG, BIG, BIG), (1, 1, BIG, BIG), (1, 0, 0, BIG), (-1, 0, 0, BIG),
            (0, 1, 2, BIG), (0, -1, 2, BIG), (BIG, 1, BIG, BIG)]
    chance = random.Random(8)
    for step in range(25):
        some.append((chance.randint(-9, 9), chance.randint(-9, 9), chance.randint(0, 12), chance.randint(1, 7)))
    for step in range(8):
        some.append((chance.randint(-BIG, BIG), chance.randint(-BIG, BIG), chance.randint(0, BIG),
                     chance.randint(1, BIG)))
    by_value = {}
    for number in some:
        by_value.setdefault(rounded(number), number)
    return list(by_value.values())


def near_pairs():
    """Pairs (one, other), the one just before the other."""
    pairs = [((0, 1, BIG - 1, 1), (0, 1, BIG, 1)), ((0, -1, BIG, 1), (0, -1, BIG - 1, 1)),
             ((BIG - 1, 0, 0, BIG), (BIG, 0, 0, BIG)), ((0, 0, 0, 1), (0, 1, 1, BIG)),
             ((0, BIG - 1, BIG, BIG), (0, BIG, BIG, BIG)),
             ((BIG - 1, BIG, BIG, BIG), (BIG, BIG, BIG, BIG))]
    for r in (2, 3, 7, 19, 10 ** 20 + 3):
        for first in near_root(r, 109):
            p, q = first
            pairs += [((p, 0, 0, q), (0, 1, r, 1)), ((p, -q, r, 1), (0, 0, 5, 1)), ((p, -q, r, BIG), (0, 0, 0, 1)),
                      ((p, 0, 0, 1), (0, q, r, 1)), ((p, 3, 17, q), (q, 3, 17, q))]
    for r, t in ((2, 3), (5, 7), (BIG, BIG - 1), (2, 8)):
        # root of r and (p + root of t) / s, with p as near as whole numbers come.
        s = 10 ** 54 - 1
        p = isqrt(r * s * s) - isqrt(t)
        pairs += [((p + step, 1, t, s), (0, 1, r, 1)) for step in range(-2, 3)]
        pairs += [((p + step, -1, t, s), (-p, 1, r, s)) for step in range(-2, 3)]
    tiny_one, tiny_other = near_root(2, 109)[1], near_root(3, 109)[1]
    pairs.append(((tiny_one[0], -tiny_one[1], 2, BIG), (tiny_other[0], -tiny_other[1], 3, BIG)))
    return [pair if order_of(*pair) < 0 else (pair[1], pair[0]) for pair in pairs]


class Order(unittest.TestCase):
    def check(self, one, other, order):
        found = root_order(one, other)
        self.assertEqual(found, order, (one, other))
        self.assertIs(type(found), int)

    def test_some_by_hand(self):
        self.check((0, 1, 2, 1), (3, 0, 0, 2), -1)
        self.check((3, 0, 0, 2), (0, 1, 2, 1), 1)
        self.check((0, 1, 2, 1), (7, 0, 0, 5), 1)
        self.check((0, -1, 2, 1), (0, 1, 2, 1), -1)
        self.check((0, 1, 8, 2), (0, 1, 2, 1), 0)
        self.check((0, 1, 9, 1), (3, 0, 0, 1), 0)
        self.check((0, -1, 9, 1), (3, 0, 0, 1), -1)
        self.check((2, 4, 0, 2), (1, 0, 9, 1), 0)
        self.check((1, 1, 2, 1), (0, 1, 6, 1), -1)
        self.check((0, 1, 6, 1), (1, 1, 2, 1), 1)
        self.check((0, 1, 2, 1), (-1, 1, 6, 1), -1)
        self.check((5, -2, 6, 1), (0, 0, 0, 1), 1)
        self.check((0, 0, 0, 1), (0, 0, 5, 3), 0)

    def test_each_two_that_differ(self):
        numbers = rooted_numbers()
        self.assertGreater(len(numbers), 40)
        for one in numbers:
            for other in numbers:
                if one != other:
                    self.check(one, other, order_of(one, other))

    def test_one_number_told_in_many_ways(self):
        for number in rooted_numbers():
            for one in other_tellings(number):
                for other in other_tellings(number):
                    self.check(one, other, 0)

    def test_many_ways_beside_another_number(self):
        for one, other in near_pairs():
            for first in other_tellings(one):
                self.check(first, other, -1)
                self.check(other, first, 1)

    def test_two_that_are_very_near(self):
        for one, other in near_pairs():
            self.check(one, other, -1)
            self.check(other, one, 1)
            turned = [(-p, -q, r, s) for p, q, r, s in (one, other)]
            self.check(turned[0], turned[1], 1)
            self.check(turned[1], turned[0], -1)

    def test_sums_of_two_roots_that_are_whole(self):
        # (2 + root of 3) and (root of 12 + 4) / 2 are one number; root of 3 stands on both sides.
        self.check((2, 1, 3, 1), (4, 1, 12, 2), 0)
        self.check((0, 5, 4, 1), (1, 3, 9, 1), 0)
        self.check((0, 5, 4, 1), (2, 3, 9, 1), -1)
        self.check((0, -5, 4, 1), (-2, -3, 9, 1), 1)


class Between(unittest.TestCase):
    def check(self, one, other):
        found = root_between(one, other)
        self.assertIs(is_ratio(found), True)
        self.assertEqual(found, root_between(one, other))
        for number in found:
            self.assertLess(abs(number), 10 ** 1000)
        with localcontext() as context:
            context.prec = 3000
            place = Decimal(found[0]) / Decimal(found[1])
            self.assertTrue(value(one) < place < value(other), (one, other, found))

    def test_some_by_hand(self):
        self.check((0, 1, 2, 1), (0, 1, 3, 1))
        self.check((0, -1, 3, 1), (0, -1, 2, 1))
        self.check((1, 0, 0, 1), (2, 0, 0, 1))
        self.check((0, 1, 4, 1), (0, 1, 9, 1))
        self.check((0, 0, 0, 1), (1, 0, 0, 1))
        self.check((-1, 0, 0, 1), (0, 0, 0, 1))
        self.check((7, 0, 0, 5), (0, 1, 2, 1))
        self.check((0, 1, 2, 1), (3, 0, 0, 2))

    def test_strictly_between_each_two_that_differ(self):
        numbers = rooted_numbers()
        for one in numbers:
            for other in numbers:
                if value(one) < value(other):
                    self.check(one, other)

    def test_strictly_between_two_that_are_very_near(self):
        for one, other in near_pairs():
            self.check(one, other)
            self.check((-other[0], -other[1], other[2], other[3]), (-one[0], -one[1], one[2], one[3]))

    def test_no_fraction_is_made_up_where_none_is_asked_for(self):
        for one, other in (((2, 0, 0, 1), (1, 0, 0, 1)), ((0, 1, 3, 1), (0, 1, 2, 1)), ((0, 1, 2, 1), (0, 1, 8, 2)),
                           ((1, -1, 5, 2), (1, -1, 5, 2))):
            with self.assertRaises(NoRatio):
                root_between(one, other)

    def test_the_fraction_itself_where_both_are_one(self):
        chance = random.Random(9)
        some = [Fraction(0), Fraction(1), Fraction(-1), Fraction(5, 3), Fraction(-5, 3), Fraction(1, BIG),
                Fraction(-BIG), Fraction(BIG, BIG - 1)]
        some += [Fraction(chance.randint(-50, 50), chance.randint(1, 20)) for step in range(20)]
        for number in some:
            top, bottom = told(number)
            tellings = []
            for q, root in ((0, 0), (0, 2), (3, 0), (-3, 0), (1, 1), (2, 3), (-2, 3), (-1, 12), (5, 10 ** 50)):
                tellings += [(top - q * root, q, root * root, bottom),
                             (4 * (top - q * root), 4 * q, root * root, 4 * bottom)]
            tellings.append((top, 0, 7, bottom))
            for one in tellings:
                for other in tellings:
                    found = root_between(one, other)
                    self.assertEqual(found, (top, bottom), (one, other))
                    self.assertEqual(fraction(found), number)


if __name__ == "__main__":
    unittest.main()
