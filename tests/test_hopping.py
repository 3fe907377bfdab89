import itertools
import random
import unittest
from fractions import Fraction

from checks import TINY, Checks, chance_line, doubled_line, square_apart, turning_squares
from samples import LINES, TOP

from oneleash.hopping import go_hops


def hops_turn(one, other):
    """Of all rows of hops the least of the greatest squares, from corner to corner."""
    asked = {}
    for i, j in itertools.product(range(len(one)), range(len(other))):
        ahead = [asked[spot] for spot in ((i - 1, j), (i, j - 1), (i - 1, j - 1)) if spot in asked]
        asked[(i, j)] = max(square_apart(one[i], other[j]), min(ahead, default=Fraction(0)))
    return asked[(len(one) - 1, len(other) - 1)]


def hops_of(walk):
    return {(end[0][0] - begin[0][0], end[1][0] - begin[1][0]) for begin, end in zip(walk, walk[1:])}


class ByHand(Checks):
    def check(self, one, other, turn):
        self.check_all_about(one, other, turn, "hops")
        self.assertEqual(hops_turn(one, other), turn)

    def test_lines_of_one_corner(self):
        self.check([(0, 0)], [(3, 4)], 25)
        self.check([(3, 4)], [(3, 4)], 0)
        self.check([(-TOP, -TOP)], [(TOP, TOP)], 8 * TOP * TOP)
        self.check([(0, 0)], [(0, 5), (3, 1), (-2, 6), (4, 4), (4, 4), (0, 2), (7, 0), (1, 1), (2, 2), (-3, 3)], 49)
        word, walk, found = self.ask([(0, 0)], [(1, 0), (9, 0), (2, 0)], 81, "hops")
        self.assertEqual(walk, [((0, 1), (0, 1)), ((0, 1), (1, 1)), ((0, 1), (2, 1))])

    def test_steps_of_both_and_of_one_alone(self):
        level, beside = [(0, 0), (5, 0), (10, 0)], [(0, 1), (5, 1), (10, 1)]
        self.check(level, beside, 1)
        word, walk, found = self.ask(level, beside, 1, "hops")
        self.assertEqual(hops_of(walk), {(1, 1)})
        short = [(0, 1), (10, 1)]
        self.check(level, short, 26)
        word, walk, found = self.ask(level, short, 26, "hops")
        self.assertEqual(hops_of(walk), {(1, 0), (1, 1)})
        word, walk, found = self.ask(short, level, 26, "hops")
        self.assertEqual(hops_of(walk), {(0, 1), (1, 1)})
        waits = [(0, 0), (1, 0), (10, 0), (10, 0)], [(0, 1), (10, 1), (9, 1), (10, 1)]
        word, walk, found = self.ask(*waits, 5, "hops")
        self.assertEqual((word, hops_of(walk) >= {(1, 0), (0, 1), (1, 1)}), ("walk", True))

    def test_amid_a_stretch_no_place_counts(self):
        self.check([(0, 0), (10, 0)], [(0, 0), (5, 0), (10, 0)], 25)
        self.check([(0, 0), (10, 0)], [(0, 3), (5, 0), (10, 3)], 25)

    def test_fences(self):
        # Nothing leads past: the one corner is far from all of the other line.
        word, fence, found = self.ask([(0, 0), (5, 7), (10, 0)], [(0, 0), (10, 0)], 73, "hops")
        self.assertEqual((word, found), ("fence", 74))
        word, fence, found = self.ask([(0, 0), (9, 0)], [(0, 5), (9, 1)], 24, "hops")
        self.assertEqual((word, fence), ("fence", [((0, 1), (0, 1))]))
        word, fence, found = self.ask([(0, 0), (9, 0)], [(0, 1), (9, 5)], 24, "hops")
        self.assertEqual((word, fence), ("fence", [((1, 1), (1, 1))]))

    def test_alike_corners(self):
        self.check([(3, 3)] * 10, [(0, -1)] * 10, 25)
        self.check([(0, 0), (0, 0), (10, 0), (10, 0)], [(0, 0), (7, 1), (7, 1), (3, 1), (3, 1), (10, 0)], 50)

    def test_all_corners_on_one_straight_line(self):
        self.check([(0, 0), (6, 0)], [(0, 0), (4, 0), (2, 0), (6, 0)], 16)
        self.check([(1, 1), (4, 4), (2, 2), (6, 6)], [(1, 1), (5, 5)], 18)

    def test_both_lines_the_same_or_turned_about(self):
        for line in LINES:
            self.check_turn(line, list(line), 0, "hops")
            self.check_turn(line, line, 0, "hops")
            self.check(line, line[::-1], hops_turn(line, line[::-1]))
        self.check([(0, 0), (10, 0)], [(10, 0), (0, 0)], 100)

    def test_numbers_of_twelve_figures(self):
        self.check([(-TOP, -TOP), (TOP, -TOP)], [(-TOP, TOP), (TOP, TOP)], 4 * TOP * TOP)
        self.check([(-TOP, 0), (TOP, 0)], [(-TOP, 0), (TOP - 1, 1), (1, 1), (TOP, 0)], (TOP - 1) ** 2 + 1)


class BySearch(Checks):
    def check(self, one, other):
        turn = hops_turn(one, other)
        self.assertEqual(self.turn_of(one, other, "hops"), turn, (one, other))
        self.check_turn(one, other, turn, "hops")

    def test_small_lines(self):
        chance = random.Random(167)
        for step in range(80):
            self.check(chance_line(chance, 6, 5), chance_line(chance, 6, 5))

    def test_lines_with_many_ties(self):
        chance = random.Random(173)
        for step in range(80):
            self.check(chance_line(chance, 7, 1), chance_line(chance, 7, 2))

    def test_ten_against_ten(self):
        chance = random.Random(179)
        for reach in (2, 4, 9, TOP):
            one, other = [[(chance.randint(-reach, reach), chance.randint(-reach, reach)) for corner in range(10)]
                          for line in range(2)]
            self.check(one, other)
        self.check(LINES[8], LINES[8][::-1])

    def test_each_square_of_two_corners(self):
        chance = random.Random(181)
        for step in range(30):
            one, other = chance_line(chance, 5, 3), chance_line(chance, 5, 3)
            turn = hops_turn(one, other)
            for square in sorted({square_apart(a, b) for a in one for b in other}):
                self.assertEqual(self.word(one, other, square, "hops"), "walk" if square >= turn else "fence")

    def test_never_below_on(self):
        chance = random.Random(191)
        parted = 0
        for step in range(40):
            one, other = [[(0, 0)] + chance_line(chance, 5, 6) + [(7, 0)] for line in range(2)]
            turns = [self.turn_of(one, other, way) for way in ("on", "hops")]
            self.assertLessEqual(*turns)
            parted += turns[0] < turns[1]
        self.assertGreater(parted, 10)

    def test_the_same_of_lines_told_otherwise(self):
        chance = random.Random(193)
        for step in range(40):
            one, other = chance_line(chance, 6, 6), chance_line(chance, 6, 6)
            turn = self.turn_of(one, other, "hops")
            for line, beside in ((other, one), (one[::-1], other[::-1]), (doubled_line(chance, one), other),
                                 (one, doubled_line(chance, other))):
                self.assertEqual(self.turn_of(line, beside, "hops"), turn)


class Squares(Checks):
    def test_squares_of_nought_and_far_above(self):
        for one, other in itertools.product(LINES, repeat=2):
            self.assertEqual(self.word(one, other, 0, "hops"), "fence" if hops_turn(one, other) else "walk")
            self.assertEqual(self.word(one, other, 10 ** 110 - 1, "hops"), "walk")
            self.ask(one, other, Fraction(1, 10 ** 110 - 1), "hops")

    def test_squares_of_many_figures(self):
        chance = random.Random(197)
        for step in range(20):
            one, other = chance_line(chance, 7, TOP), chance_line(chance, 7, TOP)
            for turn in [hops_turn(one, other)] + chance.sample(turning_squares(one, other), 1):
                for square in (turn - TINY, turn + TINY):
                    if square >= 0:
                        self.ask(one, other, square, "hops")

    def test_what_is_no_square(self):
        self.check_no_square(go_hops)

    def test_the_same_answer_the_askers_own_and_nothing_changed(self):
        self.check_goes(go_hops)


if __name__ == "__main__":
    unittest.main()
