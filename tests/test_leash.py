import itertools
import random
import unittest
from fractions import Fraction

from checks import ASK, Checks, chance_line, doubled_line, split_line, square_apart, turning_squares, widened
from samples import LINES, TOP, fraction, told
from test_fences import least_from
from test_freely import free_turn
from test_hopping import hops_turn
from test_ways import WAYS, things_no_way

from oneleash.errors import NoSquare, NoWay
from oneleash.leash import candidates, go, leash

STRAIGHT = [(0, 0), (10, 0)]
BENT = [(0, 0), (7, 1), (3, 1), (10, 0)]


def some_corners(chance, count, reach):
    return [(chance.randint(-reach, reach), chance.randint(-reach, reach)) for corner in range(count)]


def as_far_from_both(a, c, begin, end):
    """The places of a stretch that are as far from both corners: none, one, or all of them (then its two ends)."""
    off = [square_apart(begin, a) - square_apart(begin, c), square_apart(end, a) - square_apart(end, c)]
    if off[0] == off[1]:
        return [] if off[0] else [Fraction(0), Fraction(1)]
    # The difference of both squares goes evenly from the one to the other.
    t = off[0] / (off[0] - off[1])
    return [t] if 0 <= t <= 1 else []


class Candidates(Checks):
    def check(self, one, other, squares=None):
        found = candidates(one, other)
        self.assertIs(type(found), list)
        for square in found:
            self.assertEqual([type(square), [type(number) for number in square]], [tuple, [int, int]])
            self.assertEqual(square, told(fraction(square)))
        rising = [fraction(square) for square in found]
        self.assertEqual(rising, sorted(set(rising)))
        self.assertEqual(rising, turning_squares(one, other), (one, other))
        self.assertEqual(rising, self.by_the_words(one, other), (one, other))
        self.assertEqual(candidates(other, one), found)
        if squares is not None:
            self.assertEqual(rising, squares)

    def by_the_words(self, one, other):
        found = {square_apart(a, b) for a in one for b in other}
        for corners, line in ((one, other), (other, one)):
            for begin, end in zip(line, line[1:]):
                found |= {least_from(corner, begin, end) for corner in corners}
                for a, c in itertools.permutations(corners, 2):
                    places = as_far_from_both(a, c, begin, end)
                    if len(places) == 1:
                        found.add(sum((p + places[0] * (q - p) - s) ** 2 for p, q, s in zip(begin, end, a)))
        return sorted(found)

    def test_of_two_corners(self):
        self.check([(0, 0)], [(3, 4)], [25])
        self.check([(3, 4)], [(3, 4)], [0])
        self.check([(0, 0), (0, 0)], [(3, 4), (3, 4), (3, 4)], [25])

    def test_of_a_corner_and_a_stretch(self):
        self.check([(5, 3)], [(0, 0), (10, 0)], [9, 34])
        self.check([(5, 3)], [(6, 0), (10, 0)], [10, 34])
        self.check([(1, 1)], [(0, 0), (4, 2)], [Fraction(1, 5), 2, 10])

    def test_of_two_corners_and_a_stretch(self):
        self.check([(0, 0), (6, 0)], [(0, 1), (6, 1)], [1, 10, 37])
        self.check([(0, 0), (4, 2)], [(-9, 0), (9, 0)], [0, 4, Fraction(25, 4), 29, 81, 173])
        # At x = 5 it would be 26, but there the stretch isn't.
        self.check([(0, 0), (10, 0)], [(6, 1), (8, 1)], [1, 2, 5, 17, 37, 65])

    def test_of_no_place_or_of_all(self):
        self.check([(1, 3), (1, 1)], [(0, 2), (8, 2)], [1, 2, 49, 50])
        self.check([(1, 4), (1, 1)], [(0, 2), (8, 2)], [1, 2, 4, 5, 49, 50, 53])

    def test_of_alike_corners(self):
        self.check([(5, 3), (5, 3)], [(0, 0), (10, 0)], [9, 34])
        self.check([(0, 0), (2, 0), (2, 2)], [(0, 0), (0, 0)], [0, 4, 8])
        self.check([(2, 0), (0, 2)], [(0, 0), (0, 0)], [2, 4])

    def test_lines_of_all_kinds(self):
        for one, other in itertools.product(LINES, repeat=2):
            if len(one) <= 6 and len(other) <= 6:
                self.check(one, other)
                self.check(one, one[::-1])
                self.check(one, one)

    def test_lines_by_chance(self):
        chance = random.Random(199)
        for reach in (1, 2, 5, 20, TOP):
            for step in range(12):
                self.check(chance_line(chance, 6, reach), chance_line(chance, 6, reach))
            self.check(some_corners(chance, 6, reach), some_corners(chance, 6, reach))

    def test_all_corners_on_one_straight_line(self):
        self.check([(0, 0), (4, 0)], [(1, 0), (3, 0)], [0, 1, 4, 9])
        self.check([(k, 2 * k) for k in (0, 5, 2)], [(k, 2 * k) for k in (1, -4, 7, 7)])

    def test_the_askers_own(self):
        for one, other in ((LINES[4], LINES[5]), (LINES[0], LINES[0])):
            self.check_own(lambda: candidates(one, other))
            self.check_own(lambda: candidates(one, one))
            self.check_stays(candidates, list(one), list(other))


class Go(Checks):
    def test_the_very_tuple_of_that_way(self):
        chance = random.Random(211)
        for step in range(60):
            one, other = chance_line(chance, 4, 5), chance_line(chance, 4, 5)
            square = told(chance.choice(turning_squares(one, other)) + chance.choice((0, Fraction(1, 7))))
            for way in WAYS:
                self.assertEqual(go(one, other, square, way), ASK[way](one, other, square))
                self.ask(one, other, fraction(square), way)
            self.assertEqual(go(one, other, square), ASK["on"](one, other, square))

    def test_ways_that_part(self):
        ends = [(0, 0), (7, 1), (3, 1), (10, 0), (50, 50)]
        for way, words in (("on", "fence walk fence fence"), ("part", "fence walk walk walk"),
                           ("free", "walk walk fence fence"), ("hops", "fence fence fence fence")):
            found = [go(BENT, STRAIGHT, (4, 1), way), go(BENT, STRAIGHT, (5, 1), way),
                     go(BENT, ends, (4, 1), way), go(BENT, ends, (5, 1), way)]
            self.assertEqual([word for word, pairs in found], words.split(), way)

    def test_squares_of_nought_and_far_above(self):
        for one, other in itertools.product(LINES[:7], repeat=2):
            for way in WAYS:
                self.assertEqual(go(one, other, (10 ** 110 - 1, 1), way)[0], "walk")
                self.assertEqual(go(one, one, (0, 1), way)[0], "walk")

    def test_squares_of_a_thousand_figures(self):
        chance = random.Random(317)
        for step in range(10):
            one, other = chance_line(chance, 4, TOP), chance_line(chance, 4, TOP)
            for turn in chance.choices(turning_squares(one, other), k=3):
                bottom = chance.randint(10 ** 960, 10 ** 970)
                top = turn.numerator * bottom // turn.denominator
                for way in WAYS:
                    self.ask(one, other, Fraction(top + 1, bottom), way)
                    self.ask(one, other, Fraction(top, bottom), way)

    def test_where_but_a_bit_of_a_stretch_is_within_the_leash(self):
        # A bit above the turn it lies at the end of the stretch, or at its begin.
        level, bent = [(-TOP, 0), (0, 0)], [(-TOP, 0), (TOP, 4), (0, 0)]
        square = TOP * TOP + 16 + Fraction(1, 10 ** 976)
        self.assertEqual(len(str(square.numerator)), 1000)
        for one, other in ((level, bent), (bent, level)):
            for way in ("on", "free"):
                self.assertEqual(self.word(one, other, square, way), "walk")
                self.assertEqual(self.word(one[::-1], other[::-1], square, way), "walk")

    def test_what_is_no_way_goes_ahead_of_what_is_no_square(self):
        for thing in things_no_way():
            for square in ((1, 1), (-1, 1), None, thing):
                self.check_refused(NoWay, go, LINES[4], LINES[3], square, thing)

    def test_what_is_no_square(self):
        for way in WAYS:
            self.check_no_square(lambda one, other, square: go(one, other, square, way))
        self.check_no_square(go)

    def test_the_same_answer_the_askers_own_and_nothing_changed(self):
        for way in WAYS:
            self.check_goes(lambda one, other, square: go(one, other, square, way))
        self.check_goes(go)


class Leash(Checks):
    def least(self, one, other, way):
        """The least square, which the walk and the fence show."""
        answer = leash(one, other, way)
        self.assertEqual([type(answer), len(answer)], [tuple, 3])
        square, walk, fence = answer
        self.assertEqual(square, told(fraction(square)))
        self.assertEqual(self.walk_found(one, other, walk, way), fraction(square), (one, other, way))
        self.assertEqual(self.fence_found(one, other, fence, way), fraction(square), (one, other, way))
        self.assertIn(square, candidates(one, other))
        return fraction(square)

    def check(self, one, other, turns):
        found = [self.least(one, other, way) for way in WAYS]
        self.assertEqual(found, turns, (one, other))
        self.assertEqual([self.least(one[::-1], other[::-1], way) for way in WAYS], turns)
        exchanged = [self.least(other, one, way) for way in WAYS]
        self.assertEqual(exchanged[:1] + exchanged[2:], turns[:1] + turns[2:])
        self.assertEqual(leash(one, other), leash(one, other, "on"))

    def check_order(self, one, other):
        on, part, free, hops = [self.least(one, other, way) for way in WAYS]
        self.assertTrue(free <= on <= hops and part <= on, (one, other))
        self.assertEqual([free, hops], [free_turn(one, other), hops_turn(one, other)])

    def test_lines_of_one_corner(self):
        self.check([(0, 0)], [(3, 4)], [25, 25, 25, 25])
        self.check([(3, 4)], [(3, 4)], [0, 0, 0, 0])
        self.check([(0, 0)], [(4, 3), (-4, 3), (-4, 20)], [416, 9, 416, 416])
        self.check([(4, 3), (-4, 3), (-4, 20)], [(0, 0)], [416, 416, 416, 416])
        self.check([(-TOP, -TOP)], [(TOP, TOP)], [8 * TOP * TOP] * 4)

    def test_of_each_kind_of_candidate(self):
        self.check([(0, 0), (10, 0)], [(2, 3), (8, 4)], [20, 20, 20, 20])
        self.check([(0, 0), (10, 0)], [(0, 0), (5, 7), (10, 0)], [49, 49, 49, 74])
        self.check(STRAIGHT, BENT, [5, 5, 1, 50])
        self.check(BENT, STRAIGHT, [5, 5, 1, 50])
        self.check([(0, 0), (8, 1), (6, 2), (5, 1), (3, 1), (5, 2), (10, 0)], STRAIGHT,
                   [Fraction(29, 4), Fraction(29, 4), 4, 50])

    def test_part_of_the_other_line(self):
        self.check([(2, 0), (5, 0)], [(0, 0), (10, 0)], [25, 0, 25, 25])
        self.check([(5, 0), (2, 0)], [(0, 0), (10, 0)], [64, Fraction(9, 4), 64, 64])

    def test_alike_corners(self):
        self.check([(3, 3)] * 5, [(0, -1)] * 5, [25, 25, 25, 25])
        self.check([(0, 0), (0, 0), (10, 0), (10, 0)], [(0, 0), (7, 1), (7, 1), (3, 1), (10, 0)], [5, 5, 1, 50])

    def test_all_corners_on_one_straight_line(self):
        self.check([(0, 0), (4, 0), (2, 0), (6, 0)], [(0, 0), (6, 0)], [1, 1, 0, 16])
        self.check([(0, 0), (0, 9), (0, 3), (0, 12)], [(0, 0), (0, 12)], [9, 9, 0, 81])

    def test_both_lines_the_same_or_turned_about(self):
        for line in LINES:
            self.check(line, line, [0, 0, 0, 0])
            self.check_order(line, line[::-1])
        self.check(STRAIGHT, STRAIGHT[::-1], [100, 25, 100, 100])

    def test_numbers_of_twelve_figures(self):
        self.check([(-TOP, -TOP), (TOP, -TOP)], [(-TOP, TOP), (TOP, TOP)], [4 * TOP * TOP] * 4)
        middle = Fraction(2 * TOP - 3, 2) ** 2 + 1
        self.check([(-TOP, 0), (TOP - 1, 1), (-TOP + 2, 1), (TOP, 0)], [(-TOP, 0), (TOP, 0)],
                   [middle, middle, 1, (TOP + TOP - 2) ** 2 + 1])

    def test_small_lines(self):
        chance = random.Random(223)
        for step in range(150):
            self.check_order(chance_line(chance, 5, 5), chance_line(chance, 5, 5))

    def test_lines_with_many_ties(self):
        chance = random.Random(227)
        for step in range(150):
            self.check_order(chance_line(chance, 5, 1), chance_line(chance, 5, 2))

    def test_lines_of_many_corners(self):
        chance = random.Random(229)
        for reach in (2, 5, 20, 1000, TOP):
            for step in range(4):
                self.check_order(some_corners(chance, 5, reach), some_corners(chance, 5, reach))
                one, other = some_corners(chance, 7, reach), some_corners(chance, 7, reach)
                self.assertLessEqual(self.least(one, other, "part"), self.least(one, other, "on"))

    def test_lines_that_go_forth_and_back_beside_one_another(self):
        chance = random.Random(233)
        even = 0
        for step in range(40):
            one = [(0, 0)] + [(4 * k + chance.randint(-9, 9), chance.randint(-2, 2)) for k in range(1, 6)] + [(24, 0)]
            other = [(0, 0), (12 + chance.randint(-3, 3), chance.randint(-1, 1)), (24, 0)]
            for way in ("on", "part"):
                even += self.least(one, other, way) not in self.without_even_squares(one, other)
        # Most of these lie at places that are as far from two corners.
        self.assertGreater(even, 10)

    def without_even_squares(self, one, other):
        found = {square_apart(a, b) for a in one for b in other}
        for corners, line in ((one, other), (other, one)):
            for begin, end in zip(line, line[1:]):
                found |= {least_from(corner, begin, end) for corner in corners}
        return found

    def test_just_at_the_least_square_it_turns(self):
        chance = random.Random(239)
        for step in range(15):
            one, other = chance_line(chance, 5, 6), chance_line(chance, 5, 6)
            for way in WAYS:
                self.check_turn(one, other, self.least(one, other, way), way)

    def test_the_same_of_lines_told_otherwise(self):
        chance = random.Random(241)
        for step in range(50):
            one, other = chance_line(chance, 4, 6), chance_line(chance, 4, 6)
            wide = widened(one), widened(other)
            for way in WAYS:
                least = self.least(one, other, way)
                same = [(one[::-1], other[::-1]), (doubled_line(chance, one), other), (one, doubled_line(chance, other))]
                if way != "part":
                    same.append((other, one))
                for line, beside in same:
                    self.assertEqual(self.least(line, beside, way), least)
                if way != "hops":
                    self.assertEqual(self.least(split_line(chance, wide[0]), wide[1], way), 4 * least)
                    self.assertEqual(self.least(wide[0], split_line(chance, wide[1]), way), 4 * least)

    def test_what_is_no_way(self):
        for thing in things_no_way():
            self.check_refused(NoWay, leash, LINES[4], LINES[3], thing)
            self.check_refused(NoWay, leash, LINES[0], LINES[0], thing)

    def test_the_same_answer_the_askers_own_and_nothing_changed(self):
        for one, other in ((LINES[4], LINES[5]), (LINES[0], LINES[4]), (LINES[4], LINES[0]), (LINES[0], LINES[0]),
                           (STRAIGHT, BENT)):
            for way in WAYS:
                self.check_own(lambda: leash(one, other, way))
                self.check_own(lambda: leash(one, one, way))
                self.check_stays(leash, list(one), list(other), way)

    def test_what_was_told_is_handed_in_again(self):
        for one, other in ((STRAIGHT, BENT), (LINES[4], LINES[7]), (LINES[6], LINES[4])):
            for way in WAYS:
                square, walk, fence = leash(one, other, way)
                word, pairs, found = self.ask(one, other, fraction(square), way)
                self.assertEqual((word, found), ("walk", fraction(square)))
                self.check_refused(NoSquare, go, one, other, (square[0], -square[1]), way)


if __name__ == "__main__":
    unittest.main()
