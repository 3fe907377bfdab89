import copy
import random
import unittest
from fractions import Fraction
from math import gcd

from samples import fraction, things_no_ratio, things_not_whole, told

from oneleash.errors import LeashError, NoRatio
from oneleash.ratios import floor_of, is_ratio, less, minus, over, plus, ratio, times

BIG = 10 ** 110 - 1


def numbers():
    chance = random.Random(5)
    some = [0, 1, -1, 2, -2, 3, 6, -6, 12, BIG, -BIG, BIG - 1, 10 ** 109, 2 ** 300, 3 ** 200]
    return some + [chance.randint(-BIG, BIG) for step in range(6)]


def fractions():
    chance = random.Random(6)
    some = [Fraction(0), Fraction(1), Fraction(-1), Fraction(1, 2), Fraction(-1, 2), Fraction(7, 3), Fraction(-7, 3),
            Fraction(BIG), Fraction(-BIG), Fraction(1, BIG), Fraction(-1, BIG), Fraction(BIG, BIG - 1),
            Fraction(BIG - 1, BIG), Fraction(6, 35), Fraction(14, 15)]
    some += [Fraction(chance.randint(-40, 40), chance.randint(1, 12)) for step in range(20)]
    return some + [Fraction(chance.randint(-BIG, BIG), chance.randint(1, BIG)) for step in range(5)]


class Making(unittest.TestCase):
    def check_form(self, a):
        self.assertIs(type(a), tuple)
        self.assertEqual([type(number) for number in a], [int, int])
        self.assertGreaterEqual(a[1], 1)
        self.assertEqual(gcd(a[0], a[1]), 1)

    def test_some_by_hand(self):
        self.assertEqual(ratio(6, 4), (3, 2))
        self.assertEqual(ratio(-6, 4), (-3, 2))
        self.assertEqual(ratio(6, -4), (-3, 2))
        self.assertEqual(ratio(-6, -4), (3, 2))
        self.assertEqual(ratio(0, 7), (0, 1))
        self.assertEqual(ratio(0, -7), (0, 1))
        self.assertEqual(ratio(5, -5), (-1, 1))
        self.assertEqual(ratio(1, -1), (-1, 1))

    def test_the_lower_one_is_1_where_it_is_left_out(self):
        self.assertEqual(ratio(5), (5, 1))
        self.assertEqual(ratio(0), (0, 1))
        self.assertEqual(ratio(-5), (-5, 1))
        self.assertEqual(ratio(BIG), (BIG, 1))

    def test_all_pairs(self):
        for top in numbers():
            for bottom in numbers():
                if bottom == 0:
                    continue
                made = ratio(top, bottom)
                self.check_form(made)
                self.assertEqual(made, told(Fraction(top, bottom)))
                self.assertIs(is_ratio(made), True)

    def test_a_lower_number_of_nought_is_refused(self):
        for top in numbers():
            with self.assertRaises(NoRatio):
                ratio(top, 0)

    def test_what_is_no_whole_number_is_refused_on_either_place(self):
        for thing in things_not_whole():
            for call in ((thing,), (thing, 1), (1, thing), (thing, thing), (thing, 0), (0, thing), (thing, -3)):
                with self.subTest(call=repr(call)):
                    with self.assertRaises(NoRatio):
                        ratio(*call)

    def test_the_refusal_stands_under_the_two_above(self):
        for above in (LeashError, ValueError):
            with self.assertRaises(above):
                ratio(1, 0)


class Telling(unittest.TestCase):
    def test_fractions(self):
        for number in fractions():
            self.assertIs(is_ratio(told(number)), True)
        self.assertIs(is_ratio((0, 1)), True)
        self.assertIs(is_ratio((2 ** 3000, 3 ** 2000)), True)

    def test_all_else(self):
        for thing in things_no_ratio():
            with self.subTest(thing=repr(thing)):
                self.assertIs(is_ratio(thing), False)

    def test_just_those_in_lowest_terms(self):
        for top in range(-13, 14):
            for bottom in range(-13, 14):
                right = bottom >= 1 and gcd(top, bottom) == 1
                self.assertIs(is_ratio((top, bottom)), right, (top, bottom))


class Reckoning(unittest.TestCase):
    def test_against_fractions(self):
        for one in fractions():
            for other in fractions():
                a, b = told(one), told(other)
                self.assertEqual(plus(a, b), told(one + other))
                self.assertEqual(minus(a, b), told(one - other))
                self.assertEqual(times(a, b), told(one * other))
                self.assertIs(less(a, b), one < other)
                if other != 0:
                    self.assertEqual(over(a, b), told(one / other))
                for made in (plus(a, b), minus(a, b), times(a, b)):
                    self.assertIs(is_ratio(made), True)

    def test_some_by_hand(self):
        self.assertEqual(plus((1, 6), (1, 3)), (1, 2))
        self.assertEqual(plus((1, 2), (-1, 2)), (0, 1))
        self.assertEqual(minus((1, 3), (1, 2)), (-1, 6))
        self.assertEqual(times((2, 3), (3, 2)), (1, 1))
        self.assertEqual(times((-2, 3), (0, 1)), (0, 1))
        self.assertEqual(over((1, 2), (-1, 4)), (-2, 1))
        self.assertEqual(over((0, 1), (-1, 4)), (0, 1))

    def test_nothing_is_divided_by_nought(self):
        for number in fractions():
            with self.assertRaises(NoRatio):
                over(told(number), (0, 1))

    def test_a_number_is_not_less_than_itself(self):
        for number in fractions():
            self.assertIs(less(told(number), told(number)), False)

    def test_two_that_are_very_near(self):
        one, other = (BIG - 1, BIG), (BIG, BIG + 1)
        self.assertIs(less(one, other), True)
        self.assertIs(less(other, one), False)
        self.assertEqual(minus(other, one), (1, BIG * (BIG + 1)))

    def test_floors(self):
        self.assertEqual(floor_of((7, 2)), 3)
        self.assertEqual(floor_of((-7, 2)), -4)
        self.assertEqual(floor_of((-1, BIG)), -1)
        self.assertEqual(floor_of((1, BIG)), 0)
        self.assertEqual(floor_of((0, 1)), 0)
        self.assertEqual(floor_of((-4, 1)), -4)
        self.assertEqual(floor_of((BIG * BIG - 1, BIG)), BIG - 1)
        for number in fractions():
            below = floor_of(told(number))
            self.assertIs(type(below), int)
            self.assertTrue(below <= number < below + 1)

    def test_the_same_question_has_the_same_answer(self):
        for number in fractions():
            a = told(number)
            kept = copy.deepcopy(a)
            first = (plus(a, a), minus(a, (1, 3)), times(a, a), floor_of(a), less(a, (1, 3)))
            again = (plus(a, a), minus(a, (1, 3)), times(a, a), floor_of(a), less(a, (1, 3)))
            self.assertEqual(first, again)
            self.assertEqual(a, kept)
            self.assertEqual(fraction(first[0]), 2 * number)


if __name__ == "__main__":
    unittest.main()
