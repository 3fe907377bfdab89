import itertools
import random
import unittest
from fractions import Fraction

from checks import TINY, Checks, chance_line
from samples import LINES, TOP, fraction, told
from test_gates import things_no_square

from oneleash.errors import NoSquare
from oneleash.leash import leash
from oneleash.thinning import part_of, short_cut, thinned

HILL = [(0, 0), (3, 1), (5, 4), (7, 1), (10, 0)]


def cut_squares(line):
    """The shortest leash's square of each short cut."""
    return {(a, b): fraction(leash([line[a], line[b]], line[a:b + 1])[0])
            for a, b in itertools.combinations(range(len(line)), 2)}


class Parts(Checks):
    def test_parts(self):
        self.assertEqual(part_of(HILL, 0, 4), HILL)
        self.assertEqual(part_of(HILL, 1, 3), [(3, 1), (5, 4), (7, 1)])
        self.assertEqual(part_of(HILL, 1, 2), [(3, 1), (5, 4)])
        self.assertEqual(part_of(HILL, 2, 2), [(5, 4)])
        self.assertEqual(part_of([(1, 2)], 0, 0), [(1, 2)])

    def test_short_cuts(self):
        self.assertEqual(short_cut(HILL, 0, 4), [(0, 0), (10, 0)])
        self.assertEqual(short_cut(HILL, 1, 2), [(3, 1), (5, 4)])
        self.assertEqual(short_cut(HILL, 2, 2), [(5, 4), (5, 4)])
        self.assertEqual(short_cut([(1, 2)], 0, 0), [(1, 2), (1, 2)])

    def test_the_askers_own(self):
        for a, b in ((0, 0), (0, 4), (1, 3)):
            for ask in (part_of, short_cut):
                self.check_own(lambda: ask(HILL, a, b))
                self.check_stays(ask, list(HILL), a, b)


class Thinned(Checks):
    def check_form(self, answer):
        self.assertEqual([type(answer), len(answer)], [tuple, 4])
        self.assertEqual([type(part) for part in answer], [list] * 4)
        kept, walks, marks, fences = answer
        self.assertEqual({type(number) for number in kept + marks}, {int})
        for show in fences:
            self.assertEqual([type(show)] + [type(part) for part in show], [tuple, int, int, list])

    def check(self, line, square, cuts=None):
        """By the words; told are the kept corners' numbers and the marks."""
        square = Fraction(square)
        answer = thinned(line, told(square))
        self.check_form(answer)
        kept, walks, marks, fences = answer
        last = len(line) - 1
        cuts = cut_squares(line) if cuts is None else cuts
        good = [two for two in cuts if cuts[two] <= square]
        self.assertEqual(marks, self.marks_of(len(line), good))
        self.assertEqual([kept[0], kept[-1], kept], [0, last, sorted(set(kept))])
        self.assertEqual(len(kept), marks[last] + 1)
        self.assertEqual(len(walks), len(kept) - 1)
        for (a, b), walk in zip(zip(kept, kept[1:]), walks):
            self.assertIn((a, b), good)
            self.assertLessEqual(self.walk_found([line[a], line[b]], line[a:b + 1], walk, "on"), square)
        parted = [(a, b) for a, b in sorted(cuts) if marks[b] - marks[a] >= 2]
        self.assertEqual([(a, b) for a, b, fence in fences], parted)
        for a, b, fence in fences:
            self.assertGreater(self.fence_found([line[a], line[b]], line[a:b + 1], fence, "on"), square)
        return kept, marks

    def marks_of(self, count, good):
        """By all that is reached with no short cut, with one, with two .."""
        marks, reached, number = {0: 0}, {0}, 0
        while reached:
            number += 1
            reached = {b for a, b in good if a in reached}
            for corner in reached:
                marks.setdefault(corner, number)
        return [marks[corner] for corner in range(count)]

    def test_a_line_of_one_corner(self):
        for square in ((0, 1), (7, 2), (10 ** 110 - 1, 1)):
            self.assertEqual(thinned([(3, 4)], square), ([0], [], [0], []))

    def test_a_line_of_two_corners(self):
        for square in (0, 5, 10 ** 100):
            self.assertEqual(self.check([(0, 0), (4, 1)], square), ([0, 1], [0, 1]))
            self.assertEqual(self.check([(4, 1), (4, 1)], square), ([0, 1], [0, 1]))

    def test_a_hill(self):
        self.assertEqual(self.check(HILL, 0), ([0, 1, 2, 3, 4], [0, 1, 2, 3, 4]))
        self.assertEqual(self.check(HILL, 1)[1], [0, 1, 2, 3, 4])
        self.assertEqual(self.check(HILL, Fraction(49, 41) - TINY)[1], [0, 1, 2, 3, 4])
        self.assertEqual(self.check(HILL, Fraction(49, 41)), ([0, 2, 4], [0, 1, 1, 2, 2]))
        self.assertEqual(self.check(HILL, 16), ([0, 4], [0, 1, 1, 1, 1]))
        self.assertEqual(self.check(HILL, 16 - TINY)[1][-1], 2)

    def test_a_way_round_and_back(self):
        line = [(0, 0), (0, 9), (5, 20), (9, 9), (9, 0), (0, 0)]
        marks = self.check(line, 0)[1]
        self.assertEqual(marks, [0, 1, 2, 3, 4, 5])
        marks = self.check([(0, 0), (1, 5), (0, 10), (1, 5), (0, 0), (1, 5)], 1)[1]
        self.assertEqual(marks, [0, 1, 1, 2, 2, 3])
        for square in (25, 30, 60, 100, 150, 400):
            self.check(line, square)

    def test_alike_corners(self):
        self.assertEqual(self.check([(3, 3)] * 10, 0), ([0, 9], [0] + [1] * 9))
        self.check([(0, 0), (0, 0), (5, 0), (5, 0), (5, 5), (5, 5)], 0)
        self.assertEqual(self.check([(0, 0), (0, 0), (5, 0), (5, 0), (5, 5), (5, 5)], 0)[1], [0, 1, 1, 1, 2, 2])

    def test_all_corners_on_one_straight_line(self):
        self.assertEqual(self.check([(k, 2 * k) for k in range(10)], 0), ([0, 9], [0] + [1] * 9))
        # Forth and back; the marks may fall.
        self.assertEqual(self.check([(0, 0), (4, 0), (2, 0), (6, 0)], 0)[1], [0, 1, 2, 3])
        self.assertEqual(self.check([(0, 0), (4, 0), (2, 0), (6, 0)], 1), ([0, 3], [0, 1, 2, 1]))

    def test_where_a_short_cut_turns_good(self):
        chance = random.Random(263)
        for step in range(12):
            line = [(chance.randint(-9, 9), chance.randint(-9, 9)) for corner in range(chance.randint(3, 6))]
            cuts = cut_squares(line)
            for turn in sorted(set(cuts.values())):
                for square in (turn, turn - TINY, turn + TINY):
                    if square >= 0:
                        self.check(line, square, cuts)

    def test_lines_by_chance(self):
        chance = random.Random(269)
        for reach in (1, 2, 5, 30, TOP):
            for step in range(6):
                line = chance_line(chance, 10, reach)
                cuts = cut_squares(line)
                for part in (0, Fraction(1, 20), Fraction(1, 4), Fraction(1, 2), 1, 4):
                    self.check(line, part * reach * reach, cuts)

    def test_ten_corners_that_go_on(self):
        chance = random.Random(271)
        fewest = set()
        for step in range(6):
            line = [(3 * k + chance.randint(-2, 2), chance.randint(-4, 4)) for k in range(10)]
            cuts = cut_squares(line)
            for square in (0, 1, 3, 6, 10, 20, 40):
                fewest.add(len(self.check(line, square, cuts)[0]))
        self.assertGreaterEqual(len(fewest), 6)

    def test_far_above(self):
        for line in LINES:
            kept, marks = self.check(line, 10 ** 110 - 1)
            self.assertEqual(len(kept), min(len(line), 2))
            self.check(line, 0)

    def test_what_is_no_square(self):
        for thing in things_no_square():
            for line in (HILL, [(1, 1)], [(0, 0), (1, 1)]):
                self.check_refused(NoSquare, thinned, line, thing)

    def test_the_askers_own_and_nothing_changed(self):
        for line in (HILL, [(1, 1)], [(0, 0), (1, 1)], LINES[7], LINES[5]):
            for square in ((0, 1), (1, 1), (9, 2), (100, 1)):
                self.check_own(lambda: thinned(line, square))
                self.check_stays(thinned, list(line), square)


if __name__ == "__main__":
    unittest.main()
