import itertools
import random
import unittest
from fractions import Fraction

from checks import TINY, Checks, chance_line, doubled_line, split_line, square_apart, turning_squares, widened
from samples import LINES, TOP, fraction
from test_fences import least_from

from oneleash.freely import go_free

STRAIGHT = [(0, 0), (10, 0)]
BENT = [(0, 0), (7, 1), (3, 1), (10, 0)]
WINDING = [(6, 6), (1, 4), (2, 0), (5, 3)]
ROUND = [(5, 8), (9, 3), (8, 3), (7, 9), (2, 7)]


def doors_between_cells(one, other):
    """The least square of each door, with the cells that it joins."""
    for i, j in itertools.product(range(len(one) - 1), range(len(other) - 1)):
        if i:
            yield least_from(one[i], other[j], other[j + 1]), (i - 1, j), (i, j)
        if j:
            yield least_from(other[j], one[i], one[i + 1]), (i, j - 1), (i, j)


def free_turn(one, other):
    """Of all rows of cells from the first to the last the least of the greatest that a door of them asks for."""
    ends = [square_apart(one[0], other[0]), square_apart(one[-1], other[-1])]
    # A line of one corner goes nowhere; with its corner doubled it has a cell.
    one, other = [line * 2 if len(line) == 1 else line for line in (one, other)]
    reached, before = {(0, 0): ends[0]}, None
    while reached != before:
        before = dict(reached)
        for square, *cells in doors_between_cells(one, other):
            for begin, end in (cells, cells[::-1]):
                if begin in reached:
                    asked = max(reached[begin], square)
                    reached[end] = min(reached.get(end, asked), asked)
    return max(ends[1], reached[(len(one) - 2, len(other) - 2)])


def directions(pairs):
    found = set()
    pairs = [(fraction(x), fraction(y)) for x, y in pairs]
    for (x, y), (a, b) in zip(pairs, pairs[1:]):
        found |= {name for name, so in (("right", a > x), ("left", a < x), ("up", b > y), ("down", b < y)) if so}
    return found


class ByHand(Checks):
    def check(self, one, other, turn):
        self.check_all_about(one, other, turn, "free")
        self.assertEqual(free_turn(one, other), turn)

    def test_lines_of_one_corner(self):
        self.check([(0, 0)], [(3, 4)], 25)
        self.check([(3, 4)], [(3, 4)], 0)
        self.check([(-TOP, -TOP)], [(TOP, TOP)], 8 * TOP * TOP)
        self.check([(0, 0)], [(0, 5), (3, 1), (-2, 6), (4, 4), (4, 4), (0, 2), (7, 0), (1, 1), (2, 2), (-3, 3)], 49)
        self.check([(0, 0)], [(1, 0), (9, 0), (2, 0)], 81)

    def test_walks_that_must_go_back(self):
        self.check(STRAIGHT, BENT, 1)
        word, walk, found = self.ask(STRAIGHT, BENT, 1, "free")
        self.assertIn("left", directions(walk))
        word, walk, found = self.ask(BENT, STRAIGHT, 1, "free")
        self.assertIn("down", directions(walk))
        # Back past a corner.
        self.check([(0, 0), (6, 0), (12, 0)], [(0, 0), (9, 1), (3, 1), (12, 0)], 1)
        self.check([(0, 0), (9, 0), (3, 0), (12, 0)], [(0, 0), (12, 0)], 0)
        self.check([(0, 0), (9, 0), (3, 0), (12, 0)], [(0, 2), (6, 2), (1, 2), (12, 2)], 4)
        self.check(WINDING, ROUND, Fraction(1681, 37))
        word, walk, found = self.ask(WINDING, ROUND, Fraction(1681, 37), "free")
        self.assertIn("down", directions(walk))

    def test_fences_that_go_up_and_down(self):
        turn = Fraction(1681, 37)
        for square in (turn - TINY, turn - Fraction(1, 10)):
            word, fence, found = self.ask(WINDING, ROUND, square, "free")
            self.assertEqual((word, found), ("fence", turn))
            self.assertEqual(directions(fence), {"left", "right", "down"})
            word, fence, found = self.ask(ROUND, WINDING, square, "free")
            self.assertEqual((word, found), ("fence", turn))
            self.assertEqual(directions(fence), {"right", "up", "down"})

    def test_fences_at_begin_and_end(self):
        self.check([(0, 0), (9, 0)], [(0, 5), (9, 1)], 25)
        self.check([(0, 0), (9, 0)], [(0, 1), (9, 5)], 25)
        self.check([(0, 0), (9, 0), (0, 0)], [(0, 5), (9, 1), (0, 5)], 25)

    def test_fences_across(self):
        self.check([(0, 0), (5, 7), (10, 0)], [(0, 0), (10, 0)], 49)
        self.check([(0, 0), (-4, 3), (4, 0)], [(0, 0), (4, 0)], 25)
        self.check([(0, 0), (3, 4), (4, 0)], [(0, 0), (4, 0)], 16)

    def test_alike_corners(self):
        self.check([(3, 3)] * 10, [(0, -1)] * 10, 25)
        self.check([(0, 0), (0, 0), (10, 0), (10, 0)], [(0, 0), (7, 1), (7, 1), (3, 1), (3, 1), (10, 0)], 1)
        self.check([(5, 5), (5, 5)], [(0, 5), (10, 5), (10, 5)], 25)

    def test_all_corners_on_one_straight_line(self):
        self.check([(0, 0), (6, 0)], [(0, 0), (4, 0), (2, 0), (6, 0)], 0)
        self.check([(1, 1), (4, 4), (2, 2), (6, 6)], [(1, 1), (5, 5)], 2)
        self.check([(0, 0), (0, 1)], [(0, 2), (0, 3)], 4)

    def test_both_lines_the_same_or_turned_about(self):
        for line in LINES:
            self.check_turn(line, list(line), 0, "free")
            self.check_turn(line, line, 0, "free")
            self.check(line, line[::-1], free_turn(line, line[::-1]))
        self.check(STRAIGHT, STRAIGHT[::-1], 100)

    def test_numbers_of_twelve_figures(self):
        self.check([(-TOP, -TOP), (TOP, -TOP)], [(-TOP, TOP), (TOP, TOP)], 4 * TOP * TOP)
        self.check([(-TOP, 0), (TOP, 0)], [(-TOP, 0), (TOP - 1, 1), (-TOP + 2, 1), (TOP, 0)], 1)


class BySearch(Checks):
    def check(self, one, other):
        turn = free_turn(one, other)
        self.assertEqual(self.turn_of(one, other, "free"), turn, (one, other))
        self.check_turn(one, other, turn, "free")

    def test_small_lines(self):
        chance = random.Random(131)
        for step in range(70):
            self.check(chance_line(chance, 5, 5), chance_line(chance, 5, 5))

    def test_lines_with_many_ties(self):
        chance = random.Random(137)
        for step in range(60):
            self.check(chance_line(chance, 6, 1), chance_line(chance, 6, 2))

    def test_ten_against_ten(self):
        chance = random.Random(139)
        for reach in (3, 9, TOP):
            one, other = [[(chance.randint(-reach, reach), chance.randint(-reach, reach)) for corner in range(10)]
                          for line in range(2)]
            self.check(one, other)
        self.check(LINES[8], LINES[8][::-1])

    def test_squares_of_many_figures(self):
        chance = random.Random(149)
        for step in range(12):
            one, other = chance_line(chance, 7, TOP), chance_line(chance, 7, TOP)
            for turn in [free_turn(one, other)] + chance.sample(turning_squares(one, other), 1):
                bottom = chance.randint(10 ** 109, 10 ** 110 - 1)
                below = turn.numerator * bottom // turn.denominator
                for top in (below - 1, below, below + 1, below + 2):
                    if top >= 0:
                        self.ask(one, other, Fraction(top, bottom), "free")

    def test_what_is_told_again_with_the_square_that_was_told(self):
        chance = random.Random(151)
        for step in range(40):
            one, other = chance_line(chance, 6, 9), chance_line(chance, 6, 9)
            word, pairs, found = self.ask(one, other, Fraction(chance.randint(0, 600), 7), "free")
            for turn in range(3):
                again, pairs, later = self.ask(one, other, found, "free")
                if word == "walk":
                    self.assertEqual(again, "walk")
                word, found = again, later

    def test_never_above_on(self):
        chance = random.Random(157)
        parted = 0
        for step in range(40):
            one, other = [[(0, 0)] + chance_line(chance, 5, 6) + [(7, 0)] for line in range(2)]
            turns = [self.turn_of(one, other, way) for way in ("free", "on")]
            self.assertLessEqual(*turns)
            parted += turns[0] < turns[1]
        self.assertGreater(parted, 3)

    def test_the_same_of_lines_told_otherwise(self):
        chance = random.Random(163)
        for step in range(40):
            one, other = chance_line(chance, 6, 6), chance_line(chance, 6, 6)
            turn = self.turn_of(one, other, "free")
            for line, beside in ((other, one), (one[::-1], other[::-1]), (doubled_line(chance, one), other),
                                 (one, doubled_line(chance, other))):
                self.assertEqual(self.turn_of(line, beside, "free"), turn)
            one, other = widened(one), widened(other)
            self.assertEqual(self.turn_of(split_line(chance, one), other, "free"), 4 * turn)
            self.assertEqual(self.turn_of(one, split_line(chance, other), "free"), 4 * turn)


class Squares(Checks):
    def test_squares_of_nought_and_far_above(self):
        for one, other in itertools.product(LINES, repeat=2):
            self.assertEqual(self.word(one, other, 0, "free"), "fence" if free_turn(one, other) else "walk")
            self.assertEqual(self.word(one, other, 10 ** 110 - 1, "free"), "walk")
            self.ask(one, other, Fraction(1, 10 ** 110 - 1), "free")

    def test_doors_that_are_open_in_one_place(self):
        word, walk, found = self.ask([(0, 0), (3, 4), (7, 0)], [(0, 0), (7, 0)], 16, "free")
        self.assertEqual((word, found), ("walk", 16))
        self.assertIn(((1, 1), (3, 7)), walk)

    def test_what_is_no_square(self):
        self.check_no_square(go_free)

    def test_the_same_answer_the_askers_own_and_nothing_changed(self):
        self.check_goes(go_free)


if __name__ == "__main__":
    unittest.main()
