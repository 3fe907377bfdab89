import copy
import random
import unittest
from fractions import Fraction

from samples import LINES, TOP, fraction, places_of, square_at, stretch_point, things_no_place, told

from oneleash.errors import NoPlace
from oneleash.places import in_one_stretch, is_place, least_along, point_at, square_of
from oneleash.ratios import is_ratio


class Places(unittest.TestCase):
    def test_places(self):
        for line in LINES:
            for place in places_of(line):
                self.assertIs(is_place(line, place), True)
            self.assertIs(is_place(line, (0, 1)), True)
            self.assertIs(is_place(line, (len(line) - 1, 1)), True)

    def test_all_else_is_none(self):
        for line in (LINES[0], LINES[3], LINES[4], LINES[8]):
            for thing in things_no_place(line):
                with self.subTest(thing=repr(thing)):
                    self.assertIs(is_place(line, thing), False)

    def test_of_one_corner_there_is_one_place(self):
        self.assertIs(is_place([(5, 5)], (0, 1)), True)
        for thing in ((1, 1), (1, 2), (1, 10 ** 100), (-1, 10 ** 100), (0, 2)):
            self.assertIs(is_place([(5, 5)], thing), False)


class Points(unittest.TestCase):
    def test_some_by_hand(self):
        line = [(0, 0), (4, 0), (4, 3)]
        self.assertEqual(point_at(line, (0, 1)), ((0, 1), (0, 1)))
        self.assertEqual(point_at(line, (1, 3)), ((4, 3), (0, 1)))
        self.assertEqual(point_at(line, (1, 1)), ((4, 1), (0, 1)))
        self.assertEqual(point_at(line, (3, 2)), ((4, 1), (3, 2)))
        self.assertEqual(point_at(line, (2, 1)), ((4, 1), (3, 1)))
        self.assertEqual(point_at([(-2, 7)], (0, 1)), ((-2, 1), (7, 1)))
        self.assertEqual(point_at([(1, 1), (1, 1)], (5, 9)), ((1, 1), (1, 1)))
        self.assertEqual(point_at([(0, 5), (-1, 5)], (2, 3)), ((-2, 3), (5, 1)))

    def test_against_fractions(self):
        for line in LINES:
            for place in places_of(line):
                point = point_at(line, place)
                self.assertIs(type(point), tuple)
                self.assertEqual(point, tuple(told(number) for number in stretch_point(line, place)))
                self.assertTrue(is_ratio(point[0]) and is_ratio(point[1]))

    def test_no_place_is_refused(self):
        for line in (LINES[0], LINES[4]):
            for thing in things_no_place(line):
                with self.subTest(thing=repr(thing)):
                    with self.assertRaises(NoPlace):
                        point_at(line, thing)

    def test_lines_somewhat_beyond_the_bounds_are_not_refused(self):
        line = [(k * 10 ** 13, -k) for k in range(13)]
        self.assertEqual(point_at(line, (23, 2)), ((115 * 10 ** 12, 1), (-23, 2)))
        self.assertIs(in_one_stretch(line, (11, 1), (12, 1)), True)
        self.assertEqual(square_of(line, (12, 1), line, (11, 1)), (10 ** 26 + 1, 1))


class OneStretch(unittest.TestCase):
    def test_some_by_hand(self):
        line = [(0, 0), (1, 0), (2, 0), (3, 0)]
        for one, other, right in (((0, 1), (1, 1), True), ((0, 1), (1, 2), True), ((1, 2), (1, 1), True),
                                  ((1, 2), (3, 2), False), ((0, 1), (2, 1), False), ((1, 1), (2, 1), True),
                                  ((1, 1), (5, 2), False), ((3, 1), (2, 1), True), ((3, 1), (3, 1), True),
                                  ((0, 1), (0, 1), True), ((1, 3), (1, 3), True), ((9, 10), (11, 10), False),
                                  ((2, 1), (3, 2), True), ((0, 1), (3, 1), False)):
            self.assertIs(in_one_stretch(line, one, other), right, (one, other))
            self.assertIs(in_one_stretch(line, other, one), right, (one, other))

    def test_by_the_words(self):
        for line in LINES:
            for one in places_of(line):
                for other in places_of(line):
                    pair = (fraction(one), fraction(other))
                    right = any(all(k <= place <= k + 1 for place in pair) for k in range(-1, len(line)))
                    self.assertIs(in_one_stretch(line, one, other), right, (one, other))

    def test_no_place_is_refused_in_either_stead(self):
        for line in (LINES[0], LINES[4]):
            for thing in things_no_place(line):
                with self.subTest(thing=repr(thing)):
                    for pair in ((thing, (0, 1)), ((0, 1), thing), (thing, thing)):
                        with self.assertRaises(NoPlace):
                            in_one_stretch(line, *pair)


class Squares(unittest.TestCase):
    def test_some_by_hand(self):
        one, other = [(0, 0), (4, 0)], [(0, 3), (4, 3), (4, 10)]
        self.assertEqual(square_of(one, (0, 1), other, (0, 1)), (9, 1))
        self.assertEqual(square_of(one, (0, 1), other, (1, 1)), (25, 1))
        self.assertEqual(square_of(one, (1, 2), other, (1, 4)), (10, 1))
        self.assertEqual(square_of(one, (1, 3), other, (0, 1)), (97, 9))
        self.assertEqual(square_of(one, (1, 1), one, (1, 1)), (0, 1))
        self.assertEqual(square_of([(-TOP, -TOP)], (0, 1), [(TOP, TOP)], (0, 1)), (8 * TOP * TOP, 1))

    def test_against_fractions(self):
        for one in LINES:
            for other in LINES:
                for x in places_of(one)[::3]:
                    for y in places_of(other)[::4]:
                        square = square_of(one, x, other, y)
                        self.assertEqual(square, told(square_at(one, x, other, y)))
                        self.assertEqual(square, square_of(other, y, one, x))

    def test_no_place_is_refused_in_either_stead(self):
        one, other = LINES[3], LINES[4]
        for thing in things_no_place(one):
            with self.subTest(thing=repr(thing)):
                with self.assertRaises(NoPlace):
                    square_of(one, thing, other, (0, 1))
        for thing in things_no_place(other):
            with self.subTest(thing=repr(thing)):
                with self.assertRaises(NoPlace):
                    square_of(one, (0, 1), other, thing)

    def test_each_place_is_looked_at_on_its_own_line(self):
        self.assertEqual(square_of(LINES[3], (1, 1), LINES[4], (2, 1)), (9, 1))
        for call in ((LINES[3], (2, 1), LINES[4], (1, 1)), (LINES[4], (1, 1), LINES[3], (2, 1))):
            with self.assertRaises(NoPlace):
                square_of(*call)


class LeastAlong(unittest.TestCase):
    def check(self, one, x, other, low, high):
        """What goes first down and then up is least where it neither falls nor rises, or else at an end."""
        answer = least_along(one, x, other, low, high)
        self.assertIs(type(answer), tuple)
        square, place = answer
        self.assertTrue(is_ratio(square) and is_ratio(place))
        self.assertEqual(square, told(square_at(one, x, other, place)))
        bottom, spot, top = fraction(low), fraction(place), fraction(high)
        self.assertTrue(bottom <= spot <= top)
        here, there = stretch_point(other, low), stretch_point(other, high)
        step = (there[0] - here[0], there[1] - here[1])
        if step == (0, 0):
            self.assertEqual(place, low)
            return
        point, foot = stretch_point(one, x), stretch_point(other, place)
        slope = (foot[0] - point[0]) * step[0] + (foot[1] - point[1]) * step[1]
        if spot == bottom:
            self.assertGreaterEqual(slope, 0)
        elif spot == top:
            self.assertLessEqual(slope, 0)
        else:
            self.assertEqual(slope, 0)

    def test_some_by_hand(self):
        one, other = [(3, 4), (3, 4)], [(0, 0), (10, 0), (10, 0), (10, 8)]
        self.assertEqual(least_along(one, (0, 1), other, (0, 1), (1, 1)), ((16, 1), (3, 10)))
        self.assertEqual(least_along(one, (1, 1), other, (0, 1), (1, 5)), ((17, 1), (1, 5)))
        self.assertEqual(least_along(one, (1, 2), other, (1, 2), (1, 1)), ((20, 1), (1, 2)))
        self.assertEqual(least_along(one, (0, 1), other, (1, 1), (2, 1)), ((65, 1), (1, 1)))
        self.assertEqual(least_along(one, (0, 1), other, (4, 3), (5, 3)), ((65, 1), (4, 3)))
        self.assertEqual(least_along(one, (0, 1), other, (2, 1), (3, 1)), ((49, 1), (5, 2)))
        self.assertEqual(least_along(one, (0, 1), other, (3, 1), (3, 1)), ((65, 1), (3, 1)))
        self.assertEqual(least_along(one, (0, 1), other, (3, 10), (3, 10)), ((16, 1), (3, 10)))
        self.assertEqual(least_along(one, (0, 1), [(3, 4)], (0, 1), (0, 1)), ((0, 1), (0, 1)))
        self.assertEqual(least_along([(0, 0)], (0, 1), [(0, 3), (4, 0)], (0, 1), (1, 1)), ((144, 25), (9, 25)))

    def test_all_parts(self):
        for one in LINES:
            for other in LINES:
                for x in places_of(one)[::5]:
                    places = places_of(other)
                    for k, low in enumerate(places):
                        for high in places[k:k + 7]:
                            if fraction(high) <= int(fraction(low)) + 1:
                                self.check(one, x, other, low, high)

    def test_parts_of_many_figures(self):
        chance = random.Random(11)
        for step in range(60):
            one = [(chance.randint(-TOP, TOP), chance.randint(-TOP, TOP)) for corner in range(3)]
            other = [(chance.randint(-TOP, TOP), chance.randint(-TOP, TOP)) for corner in range(3)]
            bottom = chance.randint(2, 10 ** 109)
            stretch = chance.randint(0, 1)
            ends = sorted([Fraction(chance.randint(0, bottom), bottom), Fraction(chance.randint(0, bottom), bottom)])
            x = told(Fraction(chance.randint(0, 2 * bottom), bottom))
            self.check(one, x, other, told(stretch + ends[0]), told(stretch + ends[1]))

    def test_no_place_is_refused_in_each_stead(self):
        one, other = LINES[3], LINES[4]
        for thing in things_no_place(one):
            with self.subTest(thing=repr(thing)):
                with self.assertRaises(NoPlace):
                    least_along(one, thing, other, (0, 1), (1, 1))
        for thing in things_no_place(other):
            with self.subTest(thing=repr(thing)):
                for part in ((thing, (1, 1)), ((0, 1), thing), (thing, thing)):
                    with self.assertRaises(NoPlace):
                        least_along(one, (0, 1), other, *part)

    def test_each_place_is_looked_at_on_its_own_line(self):
        self.assertEqual(least_along(LINES[3], (1, 1), LINES[4], (1, 1), (2, 1)), ((0, 1), (1, 1)))
        with self.assertRaises(NoPlace):
            least_along(LINES[3], (2, 1), LINES[4], (1, 1), (2, 1))
        with self.assertRaises(NoPlace):
            least_along(LINES[4], (2, 1), LINES[3], (1, 1), (2, 1))


class StaysAsItWas(unittest.TestCase):
    def test_nothing_handed_in_is_changed_and_the_same_is_told_again(self):
        for one in LINES:
            other = LINES[4]
            kept = (copy.deepcopy(one), copy.deepcopy(other))
            for x in places_of(one):
                first = [is_place(one, x), point_at(one, x), in_one_stretch(one, x, (0, 1)),
                         square_of(one, x, other, (1, 2)), least_along(one, x, other, (1, 1), (3, 2))]
                again = [is_place(one, x), point_at(one, x), in_one_stretch(one, x, (0, 1)),
                         square_of(one, x, other, (1, 2)), least_along(one, x, other, (1, 1), (3, 2))]
                self.assertEqual(first, again)
            self.assertEqual((one, other), kept)

    def test_a_line_that_is_changed_later_is_not_kept(self):
        line = [(0, 0), (4, 0)]
        self.assertEqual(point_at(line, (1, 2)), ((2, 1), (0, 1)))
        line[1] = (0, 6)
        self.assertEqual(point_at(line, (1, 2)), ((0, 1), (3, 1)))
        line.append((1, 1))
        self.assertIs(is_place(line, (2, 1)), True)


class SamePoints(unittest.TestCase):
    def test_a_corner_doubled(self):
        for line in LINES:
            for corner in range(len(line)):
                doubled = line[:corner + 1] + line[corner:]
                for place in places_of(line):
                    number = fraction(place)
                    later = [number + 1] if number >= corner else []
                    if number <= corner:
                        later.append(number)
                    for moved in later:
                        self.assertEqual(point_at(doubled, told(moved)), point_at(line, place))
                self.assertEqual(point_at(doubled, told(corner + Fraction(1, 3))), point_at(line, (corner, 1)))

    def test_a_corner_put_in_on_a_stretch(self):
        whole = [(0, 0), (6, 12), (6, -3)]
        split = [(0, 0), (2, 4), (6, 12), (6, -3)]
        for k in range(25):
            part = Fraction(k, 24)
            place = 3 * part if part <= Fraction(1, 3) else 1 + (part - Fraction(1, 3)) * Fraction(3, 2)
            self.assertEqual(point_at(split, told(place)), point_at(whole, told(part)))
            self.assertEqual(point_at(split, told(2 + part)), point_at(whole, told(1 + part)))

    def test_the_line_turned_about(self):
        for line in LINES:
            turned = line[::-1]
            for place in places_of(line):
                back = told(len(line) - 1 - fraction(place))
                self.assertEqual(point_at(turned, back), point_at(line, place))
                for other in places_of(line):
                    other_back = told(len(line) - 1 - fraction(other))
                    self.assertIs(in_one_stretch(turned, back, other_back), in_one_stretch(line, place, other))


if __name__ == "__main__":
    unittest.main()
