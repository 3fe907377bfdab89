import copy
import itertools
import random
import unittest
from fractions import Fraction
from math import isqrt

from samples import TOP, fraction, things_no_ratio, told
from test_fences import least_from

from oneleash.errors import LeashError, NoSquare
from oneleash.gates import gate, look_at_square, open_gate
from oneleash.roots import root_between, root_order

BEGIN, END = (0, 0, 0, 1), (1, 0, 0, 1)
TINY = Fraction(1, 10 ** 100)


def rooted(number):
    number = Fraction(number)
    return (number.numerator, 0, 0, number.denominator)


def things_no_square():
    return things_no_ratio() + [(-1, 1), (-1, 2), (-1, 10 ** 100), (-10 ** 110, 1), (-10 ** 110, 7)]


def terms_of(corner, begin, end):
    """a, b, c: at t the square is a t t + 2 b t + c."""
    step = (end[0] - begin[0], end[1] - begin[1])
    off = (begin[0] - corner[0], begin[1] - corner[1])
    return (step[0] ** 2 + step[1] ** 2, step[0] * off[0] + step[1] * off[1], off[0] ** 2 + off[1] ** 2)


def is_square_at(terms, number, square):
    """Whether at the number with a root the square is just that one, exactly."""
    a, b, c = terms
    p, q, r, s = number
    u, v = Fraction(p, s), Fraction(q, s)
    if isqrt(r) ** 2 == r:
        t = u + v * isqrt(r)
        return a * t * t + 2 * b * t + c == square
    return 2 * a * u * v + 2 * b * v == 0 and a * (u * u + v * v * r) + 2 * b * u + c == square


class Checks(unittest.TestCase):
    def check_form(self, answer):
        self.assertIs(type(answer), tuple)
        self.assertEqual(len(answer), 2)
        for number in answer:
            self.assertIs(type(number), tuple)
            self.assertEqual([type(part) for part in number], [int] * 4)
            self.assertGreaterEqual(number[2], 0)
            self.assertGreaterEqual(number[3], 1)

    def check_ends(self, terms, low, high, square):
        """What goes first down and then up is within the leash just between two ends at which it falls and rises."""
        a, b, c = terms
        self.assertGreaterEqual(root_order(low, BEGIN), 0)
        self.assertLessEqual(root_order(low, high), 0)
        self.assertLessEqual(root_order(high, END), 0)
        if root_order(low, BEGIN) == 0:
            self.assertLessEqual(c, square)
        else:
            self.assertTrue(is_square_at(terms, low, square))
            self.assertLessEqual(root_order(low, rooted(Fraction(-b, a))), 0)
        if root_order(high, END) == 0:
            self.assertLessEqual(a + 2 * b + c, square)
        else:
            self.assertTrue(is_square_at(terms, high, square))
            self.assertGreaterEqual(root_order(high, rooted(Fraction(-b, a))), 0)

    def check(self, corner, begin, end, square):
        square = Fraction(square)
        least = least_from(corner, begin, end)
        closed, inner = [ask(corner, begin, end, told(square)) for ask in (gate, open_gate)]
        if least > square:
            self.assertIsNone(closed)
        else:
            self.check_form(closed)
            if begin == end:
                self.assertEqual([root_order(closed[0], BEGIN), root_order(closed[1], END)], [0, 0])
            else:
                self.check_ends(terms_of(corner, begin, end), *closed, square)
        if least >= square:
            self.assertIsNone(inner)
        else:
            self.check_form(inner)
            self.assertEqual([root_order(*two) for two in zip(closed, inner)], [0, 0])
            self.assertEqual(root_order(*inner), -1)

    def check_squares(self, corner, begin, end):
        """The squares at which something turns, a bit less and a bit more."""
        a, b, c = terms_of(corner, begin, end)
        turns = {Fraction(0), Fraction(c), Fraction(a + 2 * b + c), least_from(corner, begin, end)}
        for turn in turns:
            for square in (turn, turn + TINY, turn + 1, turn - TINY, turn - Fraction(1, 3)):
                if square >= 0:
                    self.check(corner, begin, end, square)
        self.check(corner, begin, end, 10 ** 109)
        self.check(corner, begin, end, sum(turns) / len(turns))


class LookAtSquare(unittest.TestCase):
    def test_squares(self):
        for square in ((0, 1), (1, 1), (1, 2), (10 ** 110 - 1, 1), (1, 10 ** 110 - 1), (10 ** 110 - 1, 10 ** 110 - 2)):
            self.assertIsNone(look_at_square(square))

    def test_all_else_is_refused(self):
        for thing in things_no_square():
            with self.subTest(thing=repr(thing)):
                with self.assertRaises(NoSquare):
                    look_at_square(thing)
                for ask in (gate, open_gate):
                    with self.assertRaises(NoSquare):
                        ask((1, 2), (0, 0), (4, 0), thing)
                    with self.assertRaises(NoSquare):
                        ask((1, 2), (3, 3), (3, 3), thing)
        with self.assertRaises(LeashError):
            look_at_square((-1, 1))


class Gates(Checks):
    def told_ends(self, answer):
        """The two numbers, where both are fractions."""
        return None if answer is None else [fraction(root_between(number, number)) for number in answer]

    def test_some_by_hand(self):
        corner, begin, end = (5, 3), (0, 0), (10, 0)
        for square, closed, inner in (
                ((0, 1), None, None), ((8, 1), None, None), ((9, 1), ["1/2", "1/2"], None),
                ((25, 1), ["1/10", "9/10"], ["1/10", "9/10"]), ((34, 1), ["0", "1"], ["0", "1"]),
                ((1000, 1), ["0", "1"], ["0", "1"]), ((45, 4), ["7/20", "13/20"], ["7/20", "13/20"])):
            for ask, right in ((gate, closed), (open_gate, inner)):
                right = None if right is None else [Fraction(number) for number in right]
                self.assertEqual(self.told_ends(ask(corner, begin, end, square)), right, square)

    def test_with_a_root_by_hand(self):
        low, high = gate((5, 3), (0, 0), (10, 0), (11, 1))
        self.assertEqual(root_order(low, (5, -1, 2, 10)), 0)
        self.assertEqual(root_order(high, (5, 1, 2, 10)), 0)
        low, high = open_gate((5, 3), (0, 0), (10, 0), (28, 3))
        self.assertEqual(root_order(low, (15, -1, 3, 30)), 0)
        self.assertEqual(root_order(high, (15, 1, 3, 30)), 0)

    def test_just_at_an_end(self):
        # The place nearest to the corner is an end of the stretch.
        for begin, end, t in (((0, 0), (4, 0), 0), ((-4, 0), (0, 0), 1)):
            for corner in ((-3 if t == 0 else 3, 4), (-5 if t == 0 else 5, 0), (0, 5)):
                self.assertEqual(self.told_ends(gate(corner, begin, end, (25, 1))), [t, t])
                self.assertIsNone(open_gate(corner, begin, end, (25, 1)))
                self.assertIsNone(gate(corner, begin, end, told(25 - TINY)))
                self.check_form(open_gate(corner, begin, end, told(25 + TINY)))

    def test_begin_and_end_alike(self):
        for corner, square, closed, inner in (((3, 4), (25, 1), True, False), ((3, 4), (24, 1), False, False),
                                              ((3, 4), (26, 1), True, True), ((0, 0), (0, 1), True, False),
                                              ((0, 0), (1, 9), True, True), ((0, 1), (0, 1), False, False),
                                              ((3, 4), told(25 - TINY), False, False),
                                              ((3, 4), told(25 + TINY), True, True)):
            for ask, there in ((gate, closed), (open_gate, inner)):
                answer = ask(corner, (0, 0), (0, 0), square)
                self.assertEqual(self.told_ends(answer), [0, 1] if there else None, (corner, square))

    def test_corners_on_the_stretch_at_an_end_and_beside_it(self):
        for begin, end in (((0, 0), (6, 0)), ((6, 3), (0, 0)), ((2, -2), (2, 7)), ((1, 1), (1, 1)), ((-3, 5), (4, -2))):
            for corner in itertools.product(range(-3, 9, 2), range(-3, 9, 3)):
                self.check_squares(corner, begin, end)
            self.check_squares(begin, begin, end)
            self.check_squares(end, begin, end)
        self.check_squares((2, 1), (6, 3), (0, 0))
        self.check_squares((2, 3), (2, -2), (2, 7))

    def test_a_square_of_nought(self):
        self.assertEqual(self.told_ends(gate((2, 1), (0, 0), (6, 3), (0, 1))), [Fraction(1, 3)] * 2)
        self.assertEqual(self.told_ends(gate((0, 0), (0, 0), (6, 3), (0, 1))), [0, 0])
        self.assertEqual(self.told_ends(gate((6, 3), (0, 0), (6, 3), (0, 1))), [1, 1])
        for corner in ((2, 2), (-2, -1), (8, 4), (7, 3)):
            self.assertIsNone(gate(corner, (0, 0), (6, 3), (0, 1)))
        for corner in ((2, 1), (0, 0), (6, 3), (2, 2)):
            self.assertIsNone(open_gate(corner, (0, 0), (6, 3), (0, 1)))

    def test_numbers_of_twelve_figures(self):
        chance = random.Random(41)
        self.check_squares((TOP, TOP), (-TOP, -TOP), (TOP, -TOP))
        self.check_squares((-TOP, TOP), (-TOP, -TOP), (TOP, TOP))
        self.check_squares((TOP, TOP - 1), (-TOP, -TOP), (TOP, TOP))
        for step in range(60):
            spots = [(chance.randint(-TOP, TOP), chance.randint(-TOP, TOP)) for corner in range(3)]
            self.check_squares(*spots)
            bottom = chance.randint(1, 10 ** 85)
            self.check(*spots, Fraction(chance.randint(0, 10 ** 110 - 1), bottom))

    def test_small_numbers_of_all_kinds(self):
        chance = random.Random(43)
        found = [0, 0]
        for step in range(1500):
            spots = [(chance.randint(-5, 5), chance.randint(-5, 5)) for corner in range(3)]
            square = Fraction(chance.randint(0, 60), chance.randint(1, 4))
            self.check(*spots, square)
            found[gate(*spots, told(square)) is None] += 1
        self.assertGreater(min(found), 200)

    def test_outside_of_low_and_high_every_place_is_farther_away(self):
        chance = random.Random(47)
        for step in range(200):
            corner, begin, end = [(chance.randint(-5, 5), chance.randint(-5, 5)) for number in range(3)]
            square = Fraction(chance.randint(0, 60), chance.randint(1, 4))
            closed, inner = [ask(corner, begin, end, told(square)) for ask in (gate, open_gate)]
            a, b, c = terms_of(corner, begin, end)
            for k in range(31):
                t = Fraction(k, 30)
                here = a * t * t + 2 * b * t + c
                within = closed is not None and root_order(closed[0], rooted(t)) <= 0 <= root_order(closed[1], rooted(t))
                self.assertIs(within, here <= square)
                if here < square:
                    self.assertTrue(root_order(inner[0], rooted(t)) <= 0 <= root_order(inner[1], rooted(t)))

    def test_a_low_and_a_high_that_are_one_number_are_a_fraction(self):
        chance = random.Random(53)
        met = 0
        for step in range(400):
            first, second, begin, end = [(chance.randint(-9, 9), chance.randint(-9, 9)) for number in range(4)]
            a, b, c = terms_of(first, begin, end)
            d, e, f = terms_of(second, begin, end)
            if b == e:
                continue
            t = Fraction(f - c, 2 * (b - e))
            if 0 <= t <= 1:
                square = told(a * t * t + 2 * b * t + c)
                one, other = gate(first, begin, end, square), gate(second, begin, end, square)
                for low, high in ((one[0], other[1]), (other[0], one[1])):
                    if root_order(low, high) == 0:
                        met += 1
                        self.assertEqual(root_between(low, high), told(t))
        self.assertGreater(met, 20)


class StaysAsItWas(unittest.TestCase):
    def test_the_same_question_has_the_same_answer(self):
        for ask in (gate, open_gate):
            handed = [(5, 3), (0, 0), (10, 0), (11, 1)]
            kept = copy.deepcopy(handed)
            first = ask(*handed)
            with self.assertRaises(NoSquare):
                ask((5, 3), (0, 0), (10, 0), (-1, 1))
            self.assertEqual(ask(*handed), first)
            self.assertEqual(handed, kept)


if __name__ == "__main__":
    unittest.main()
