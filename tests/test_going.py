import itertools
import random
import unittest
from fractions import Fraction

from checks import TINY, Checks, chance_line, doubled_line, split_line, square_apart, turning_squares, widened
from samples import LINES, TOP, fraction
from test_fences import goes_back, goes_down, goes_over

from oneleash.going import go_on, go_part


class TurnsByHand(Checks):
    def test_lines_of_one_corner_each(self):
        for way in ("on", "part"):
            self.check_all_about([(0, 0)], [(3, 4)], 25, way)
            self.check_all_about([(3, 4)], [(3, 4)], 0, way)
            self.check_all_about([(-TOP, -TOP)], [(TOP, TOP)], 8 * TOP * TOP, way)

    def test_one_corner_against_many(self):
        many = [(0, 5), (3, 1), (-2, 6), (4, 4), (4, 4), (0, 2), (7, 0), (1, 1), (2, 2), (-3, 3)]
        self.check_all_about([(0, 0)], many, 49, "on")
        self.check_turn([(0, 0)], many, 2, "part")
        self.check_turn(many, [(0, 0)], 49, "part")
        self.check_turn([(0, 0)], [(4, 3), (-4, 3), (-4, 20)], 9, "part")
        self.check_turn([(0, 0)], [(0, 3), (4, 0)], Fraction(144, 25), "part")

    def test_of_two_corners(self):
        self.check_all_about([(0, 0), (10, 0)], [(0, 3), (10, 4)], 16, "on")
        self.check_all_about([(0, 0), (10, 0)], [(0, 6), (10, 4)], 36, "on")
        self.check_all_about([(0, 0), (10, 0)], [(2, 3), (8, 4)], 20, "on")
        self.check_all_about([(0, 0), (10, 0)], [(2, 3), (8, 4)], 20, "part")
        self.check_turn([(0, 0), (0, 10)], [(0, 0), (0, 5)], 25, "part")
        self.check_turn([(0, 0), (0, 10)], [(0, 0), (0, 5)], 25, "on")

    def test_of_a_corner_and_a_stretch(self):
        for way in ("on", "part"):
            self.check_all_about([(0, 0), (10, 0)], [(0, 0), (5, 7), (10, 0)], 49, way)
            self.check_all_about([(0, 0), (5, 7), (10, 0)], [(0, 0), (10, 0)], 49, way)
            self.check_all_about([(0, 0), (3, 4), (4, 0)], [(0, 0), (4, 0)], 16, way)
        self.check_turn([(0, 0), (0, 1)], [(-9, 4), (12, -3)], Fraction(9, 10), "part")

    def test_of_two_corners_and_a_stretch(self):
        straight, bent = [(0, 0), (10, 0)], [(0, 0), (7, 1), (3, 1), (10, 0)]
        self.check_all_about(straight, bent, 5, "on")
        self.check_turn(bent, straight, 5, "part")
        self.check_all_about([(0, 0), (12, 0)], [(0, 0), (9, 2), (2, -1), (12, 0)], self.middle((9, 2), (2, -1)), "on")
        self.check_turn([(0, 0), (9, 2), (2, -1), (12, 0)], [(0, 0), (12, 0)], self.middle((9, 2), (2, -1)), "part")
        # The corners that go back are not neighbours.
        far = [(0, 0), (8, 1), (6, 2), (5, 1), (3, 1), (5, 2), (10, 0)]
        self.check_all_about(straight, far, Fraction(25, 4) + 1, "on")
        self.check_turn(far, straight, Fraction(25, 4) + 1, "part")

    def middle(self, a, c):
        """The square at the place of the level line through nought that is as far from both."""
        x = Fraction(a[0] ** 2 + a[1] ** 2 - c[0] ** 2 - c[1] ** 2, 2 * (a[0] - c[0]))
        return (x - a[0]) ** 2 + a[1] ** 2

    def test_part_of_the_other_line(self):
        self.check_turn([(2, 0), (5, 0)], [(0, 0), (10, 0)], 0, "part")
        self.check_turn([(2, 0), (5, 0)], [(0, 0), (10, 0)], 25, "on")
        self.check_turn([(5, 0), (2, 0)], [(0, 0), (10, 0)], Fraction(9, 4), "part")
        self.check_turn([(2, 1), (5, 1), (5, 4)], [(-7, 1), (5, 1), (5, 4), (9, 9)], 0, "part")
        self.check_turn([(2, 1), (5, 1), (5, 4)], [(9, 9), (5, 4), (5, 1), (-7, 1)], 9, "part")

    def test_all_corners_on_one_straight_line(self):
        self.check_all_about([(0, 0), (6, 0)], [(0, 0), (4, 0), (2, 0), (6, 0)], 1, "on")
        self.check_all_about([(0, 0), (0, 9), (0, 3), (0, 12)], [(0, 0), (0, 12)], 9, "on")
        self.check_all_about([(1, 1), (4, 4), (2, 2), (6, 6)], [(1, 1), (6, 6)], 2, "on")
        self.check_turn([(1, 1), (4, 4), (2, 2), (6, 6)], [(0, 0), (9, 9)], 2, "part")
        self.check_turn([(0, 0), (0, 1)], [(0, 2), (0, 3)], 4, "on")
        self.check_turn([(0, 0), (0, 1)], [(0, 2), (0, 3)], 4, "part")

    def test_both_lines_the_same(self):
        for line in LINES:
            for way in ("on", "part"):
                self.check_turn(line, list(line), 0, way)
                self.check_turn(line, line, 0, way)

    def test_one_line_the_other_turned_about(self):
        self.check_all_about([(0, 0), (10, 0)], [(10, 0), (0, 0)], 100, "on")
        self.check_all_about([(0, 0), (10, 0)], [(10, 0), (0, 0)], 25, "part")
        self.check_all_about([(0, 0), (10, 0), (0, 0)], [(0, 0), (10, 0), (0, 0)], 0, "on")
        for line in LINES:
            ends = square_apart(line[0], line[-1])
            self.assertGreaterEqual(self.turn_of(line, line[::-1], "on"), ends)

    def test_alike_corners(self):
        self.check_all_about([(3, 3)] * 10, [(0, -1)] * 10, 25, "on")
        self.check_all_about([(3, 3)] * 10, [(0, -1)] * 10, 25, "part")
        self.check_all_about([(0, 0), (0, 0), (10, 0), (10, 0)], [(0, 0), (7, 1), (7, 1), (3, 1), (3, 1), (10, 0)], 5,
                             "on")
        self.check_turn([(5, 5), (5, 5)], [(0, 5), (10, 5), (10, 5)], 0, "part")
        self.check_turn([(5, 5), (5, 5)], [(0, 5), (10, 5), (10, 5)], 25, "on")

    def test_numbers_of_twelve_figures(self):
        self.check_all_about([(-TOP, -TOP), (TOP, -TOP)], [(-TOP, TOP), (TOP, TOP)], 4 * TOP * TOP, "on")
        self.check_all_about([(-TOP, 0), (TOP, 0)], [(-TOP, 0), (TOP - 1, 1), (-TOP + 2, 1), (TOP, 0)],
                             self.middle((TOP - 1, 1), (-TOP + 2, 1)), "on")
        self.check_turn([(-TOP, 0), (TOP - 1, 1), (-TOP + 2, 5), (TOP, 0)], [(-TOP, 0), (TOP, 0)],
                        self.middle((TOP - 1, 1), (-TOP + 2, 5)), "part")


class TurnsBySearch(Checks):
    def check_lines(self, one, other):
        turns = {}
        for way in ("on", "part"):
            turns[way] = self.turn_of(one, other, way)
            self.check_turn(one, other, turns[way], way)
        self.assertLessEqual(turns["part"], turns["on"])
        return turns

    def test_small_lines(self):
        chance = random.Random(61)
        for step in range(70):
            self.check_lines(chance_line(chance, 5, 5), chance_line(chance, 5, 5))

    def test_lines_with_many_ties(self):
        chance = random.Random(67)
        for step in range(60):
            self.check_lines(chance_line(chance, 6, 1), chance_line(chance, 6, 2))

    def test_ten_against_ten(self):
        chance = random.Random(71)
        for step in range(3):
            one, other = [[(chance.randint(-9, 9), chance.randint(-9, 9)) for corner in range(10)] for line in range(2)]
            self.check_lines(one, other)
        self.check_lines(LINES[8], LINES[8][::-1])

    def test_lines_that_go_beside_one_another(self):
        chance = random.Random(73)
        for step in range(12):
            one = [(4 * k + chance.randint(-3, 3), chance.randint(-3, 3)) for k in range(8)]
            other = [(x + chance.randint(-2, 2), y + chance.randint(-2, 2)) for x, y in one]
            self.check_lines(one, other)

    def test_numbers_of_twelve_figures(self):
        chance = random.Random(79)
        for step in range(4):
            self.check_lines(chance_line(chance, 6, TOP), chance_line(chance, 6, TOP))

    def test_once_a_walk_always_a_walk(self):
        chance = random.Random(83)
        for step in range(15):
            one, other = chance_line(chance, 5, 4), chance_line(chance, 5, 4)
            for way in ("on", "part"):
                words = [self.word(one, other, square, way) for square in turning_squares(one, other)]
                self.assertEqual(words, sorted(words), (one, other, way))
                self.assertEqual(words[-1], "walk")

    def test_what_is_told_again_with_the_square_that_was_told(self):
        chance = random.Random(89)
        for step in range(40):
            one, other = chance_line(chance, 6, 9), chance_line(chance, 6, 9)
            for way in ("on", "part"):
                word, pairs, found = self.ask(one, other, Fraction(chance.randint(0, 600), 7), way)
                for turn in range(3):
                    again, pairs, later = self.ask(one, other, found, way)
                    if word == "walk":
                        self.assertEqual(again, "walk")
                        self.assertLessEqual(later, found)
                        break
                    word, found = again, later


class Squares(Checks):
    def test_squares_of_many_figures(self):
        chance = random.Random(97)
        for step in range(12):
            one, other = chance_line(chance, 7, TOP), chance_line(chance, 7, TOP)
            for way in ("on", "part"):
                for turn in [self.turn_of(one, other, way)] + chance.sample(turning_squares(one, other), 2):
                    bottom = chance.randint(10 ** 109, 10 ** 110 - 1)
                    below = turn.numerator * bottom // turn.denominator
                    # Just below and just above, as near as so many figures come.
                    for top in (below - 1, below, below + 1, below + 2):
                        if top >= 0:
                            self.ask(one, other, Fraction(top, bottom), way)

    def test_squares_of_nought_and_far_above(self):
        for one, other in itertools.product(LINES, repeat=2):
            for way in ("on", "part"):
                word = self.word(one, other, 0, way)
                if one == other:
                    self.assertEqual(word, "walk")
                elif way == "on" and (one[0] != other[0] or one[-1] != other[-1]):
                    self.assertEqual(word, "fence")
                self.assertEqual(self.word(one, other, 10 ** 110 - 1, way), "walk")
                self.ask(one, other, Fraction(1, 10 ** 110 - 1), way)

    def test_gates_that_meet_in_one_place(self):
        # Within the leash there is but one place to go through, and it is no corner.
        straight, bent = [(0, 0), (10, 0)], [(0, 0), (7, 1), (3, 1), (10, 0)]
        for one, other, number in ((straight, bent, 0), (bent, straight, 1)):
            word, pairs, found = self.ask(one, other, 5, "on")
            self.assertEqual((word, found), ("walk", 5))
            self.assertIn((1, 2), [step[number] for step in pairs])
        one, other = [(0, 0), (3, 4), (7, 0)], [(0, 0), (7, 0)]
        word, pairs, found = self.ask(one, other, 16, "on")
        self.assertEqual((word, found), ("walk", 16))
        self.assertIn(((1, 1), (3, 7)), pairs)

    def test_what_is_no_square(self):
        self.check_no_square(go_on)
        self.check_no_square(go_part)


class Fences(Checks):
    def steps_of(self, pairs):
        steps = set()
        pairs = [(fraction(x), fraction(y)) for x, y in pairs]
        for begin, end in zip(pairs, pairs[1:]):
            for name, goes in (("back", goes_back), ("down", goes_down), ("over", goes_over)):
                if begin != end and goes(begin, end):
                    steps.add(name)
        return steps

    def test_fences_of_steps_back_down_and_over(self):
        # Both lines go forth and back; just below the turn no fence is without a step back.
        straight, bent = [(0, 0), (10, 0)], [(0, 0), (7, 1), (3, 1), (10, 0)]
        word, pairs, found = self.ask(straight, bent, 5 - TINY, "on")
        self.assertEqual(self.steps_of(pairs), {"over", "back"})
        word, pairs, found = self.ask(bent, straight, 5 - TINY, "on")
        self.assertEqual(self.steps_of(pairs), {"down", "back"})
        word, pairs, found = self.ask(bent, straight, 5 - TINY, "part")
        self.assertEqual(self.steps_of(pairs), {"down", "back"})

    def test_long_fences(self):
        winding = [
            ([(-12, -11), (-7, 3), (-1, 20), (-15, -2), (-1, 1), (-8, 10), (-11, -12), (0, 8), (-13, 10), (-18, -17)],
             [(-12, 7), (16, -4), (-20, -16), (13, 19), (0, -20), (-11, -5), (19, 14), (15, 17), (-2, -15),
              (-12, 11)], 403, "part"),
            ([(-10, 19), (-12, -2), (11, 1), (-2, -3), (-2, -8), (-14, 1), (-15, 9), (-16, 1), (-2, 19), (-14, 17)],
             [(-8, 9), (20, -20), (-17, 18), (17, -18), (-16, 14), (17, -9), (-7, -16), (18, 8), (1, -10), (-17, 18)],
             237, "part"),
            ([(-6, -7), (19, 16), (-13, 6), (-15, -19), (4, -10), (10, 19), (-17, -7), (16, -19), (-18, -14), (1, 7)],
             [(6, 3), (-3, -12), (13, 11), (5, -17), (-8, 17), (-10, -18), (13, 15), (-11, -10), (1, -4), (4, -6)],
             472, "on"),
            ([(15, -8), (-20, 10), (4, 16), (3, 18), (-9, -1), (14, -20), (6, 4), (-20, 16), (13, -5), (-3, -6)],
             [(8, 0), (-3, 12), (8, -12), (19, 4), (8, -3), (-11, -4), (-17, -7), (15, -10), (-12, 13), (0, -14)],
             457, "on")]
        for one, other, square, way in winding:
            word, pairs, found = self.ask(one, other, square, way)
            self.assertEqual(word, "fence")
            self.assertEqual(self.steps_of(pairs), {"back", "down", "over"})
            word, pairs, found = self.ask(one[::-1], other[::-1], square, way)
            self.assertEqual(word, "fence")
            word, pairs, found = self.ask(other, one, square, "on")
            self.assertEqual(word, "fence" if way == "on" else word)


class SameWords(Checks):
    def some(self, seed, count):
        chance = random.Random(seed)
        for step in range(count):
            one, other = chance_line(chance, 6, 6), chance_line(chance, 6, 6)
            turn = chance.choice(turning_squares(one, other))
            for square in (turn, turn - Fraction(1, 10 ** 9), turn + Fraction(1, 10 ** 9)):
                if square >= 0:
                    yield chance, one, other, square

    def test_both_lines_exchanged(self):
        for chance, one, other, square in self.some(101, 80):
            self.assertEqual(self.word(other, one, square, "on"), self.word(one, other, square, "on"))

    def test_both_turned_about(self):
        for chance, one, other, square in self.some(103, 60):
            for way in ("on", "part"):
                self.assertEqual(self.word(one[::-1], other[::-1], square, way), self.word(one, other, square, way))

    def test_a_corner_put_in_on_a_stretch(self):
        for chance, one, other, square in self.some(107, 60):
            wide = [widened(line) for line in (one, other)]
            split = [split_line(chance, line) for line in wide]
            for way in ("on", "part"):
                word = self.word(one, other, square, way)
                self.assertEqual(self.word(*wide, 4 * square, way), word)
                self.assertEqual(self.word(split[0], wide[1], 4 * square, way), word)
                self.assertEqual(self.word(wide[0], split[1], 4 * square, way), word)

    def test_a_corner_doubled(self):
        for chance, one, other, square in self.some(109, 60):
            doubled = [doubled_line(chance, line) for line in (one, other)]
            for way in ("on", "part"):
                word = self.word(one, other, square, way)
                self.assertEqual(self.word(doubled[0], other, square, way), word)
                self.assertEqual(self.word(one, doubled[1], square, way), word)

    def test_part_wherever_on(self):
        both = 0
        for chance, one, other, square in self.some(113, 80):
            words = [self.word(one, other, square, way) for way in ("on", "part")]
            if words[0] == "walk":
                self.assertEqual(words[1], "walk")
            both += words[0] != words[1]
        self.assertGreater(both, 10)


class StaysAsItWas(Checks):
    def test_the_same_answer_the_askers_own_and_nothing_changed(self):
        self.check_goes(go_on)
        self.check_goes(go_part)


if __name__ == "__main__":
    unittest.main()
