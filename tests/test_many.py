import itertools
import random
import unittest

from checks import Checks, chance_line
from samples import TOP, fraction, told
from test_ways import WAYS, things_no_way

from oneleash.errors import NoLines, NoWay
from oneleash.leash import leash
from oneleash.many import midst, nearest

LEVEL = [[(0, k), (10, k)] for k in (0, 1, 3, 6, 10, 15)]


def square_of_leash(one, other, way):
    return fraction(leash(one, other, way)[0])


def some_lines(chance, count, most, reach):
    return [chance_line(chance, most, reach) for line in range(count)]


class Nearest(Checks):
    def near(self, line, lines, way="on"):
        """The number and the square, which the walk and the fences show."""
        answer = nearest(line, lines, way)
        self.assertEqual([type(answer), len(answer)], [tuple, 4])
        number, square, walk, fences = answer
        self.assertIs(type(number), int)
        self.assertEqual(square, told(fraction(square)))
        self.assertEqual(self.walk_found(line, lines[number], walk, way), fraction(square))
        self.assertEqual([type(fences), len(fences)], [list, len(lines)])
        for other, fence in zip(lines, fences):
            self.assertGreaterEqual(self.fence_found(line, other, fence, way), fraction(square))
        self.assertEqual(self.fence_found(line, lines[number], fences[number], way), fraction(square))
        return number, fraction(square)

    def check(self, line, lines, way):
        found = [square_of_leash(line, other, way) for other in lines]
        self.assertEqual(self.near(line, lines, way), (found.index(min(found)), min(found)), (line, lines, way))

    def test_lists_of_one_to_six(self):
        for way in WAYS:
            for count in range(1, 7):
                self.assertEqual(self.near([(0, 20), (10, 20)], LEVEL[:count], way)[0], count - 1)
                self.assertEqual(self.near([(0, -1), (10, -1)], LEVEL[:count], way), (0, 1))
            self.assertEqual(self.near([(0, 7), (10, 7)], LEVEL, way), (3, 1))

    def test_several_with_one_square(self):
        for way in WAYS:
            self.assertEqual(self.near([(0, 2), (10, 2)], LEVEL, way), (1, 1))
            self.assertEqual(self.near([(0, 2), (10, 2)], LEVEL[::-1], way), (3, 1))
            self.assertEqual(self.near([(0, 0)], [[(5, 0)], [(0, 3)], [(3, 0)], [(0, -3)]], way), (1, 9))
            self.assertEqual(self.near(LEVEL[0], [LEVEL[2]] * 4, way), (0, 9))

    def test_the_line_itself_among_them(self):
        for way in WAYS:
            for number, line in enumerate(LEVEL):
                self.assertEqual(self.near(line, LEVEL, way), (number, 0))
                self.assertEqual(self.near(line, [line], way), (0, 0))
                self.assertEqual(self.near(line, [LEVEL[1][::-1], line, line], way), (1, 0))

    def test_the_one_line_goes_first(self):
        # By "part" it is the other one that may be gone in part.
        short, long = [(2, 0), (5, 0)], [(0, 0), (10, 0)]
        self.assertEqual(self.near(short, [[(2, 1), (5, 1)], long], "part"), (1, 0))
        self.assertEqual(self.near(long, [[(0, 1), (10, 1)], short], "part"), (0, 1))

    def test_where_nothing_is_handed_in_on_is_meant(self):
        straight, bent = [(0, 0), (10, 0)], [(0, 0), (7, 1), (3, 1), (10, 0)]
        lines = [bent, [(0, 2), (10, 2)]]
        self.assertEqual(nearest(straight, lines), nearest(straight, lines, "on"))
        self.assertEqual(self.near(straight, lines), (1, 4))
        self.assertEqual(self.near(straight, lines, "free"), (0, 1))

    def test_lines_by_chance(self):
        chance = random.Random(251)
        for way in WAYS:
            for reach in (1, 3, 9, TOP):
                for step in range(4):
                    self.check(chance_line(chance, 4, reach), some_lines(chance, chance.randint(1, 4), 4, reach), way)
                    self.check(chance_line(chance, 3, reach), some_lines(chance, chance.randint(5, 6), 3, reach), way)

    def test_refusals(self):
        self.check_refused(NoLines, nearest, LEVEL[0], [])
        for way in WAYS:
            self.check_refused(NoLines, nearest, LEVEL[0], [], way)
        for thing in things_no_way():
            self.check_refused(NoWay, nearest, LEVEL[0], LEVEL, thing)
            self.check_refused(NoWay, nearest, LEVEL[0], [], thing)

    def test_the_askers_own_and_nothing_changed(self):
        for way in WAYS:
            self.check_own(lambda: nearest(LEVEL[0], LEVEL, way))
            self.check_own(lambda: nearest(LEVEL[0], [LEVEL[0]] * 6, way))
            self.check_own(lambda: nearest([(1, 1)], [[(1, 1)], [(2, 2)], [(1, 1)]], way))
            self.check_stays(nearest, list(LEVEL[0]), [list(line) for line in LEVEL], way)


class Midst(Checks):
    def amid(self, lines, way="on"):
        """The number and the square, which the walks and the shows show."""
        answer = midst(lines, way)
        self.assertEqual([type(answer), len(answer)], [tuple, 4])
        number, square, walks, shows = answer
        self.assertIs(type(number), int)
        self.assertEqual(square, told(fraction(square)))
        self.assertEqual([type(walks), len(walks), type(shows), len(shows)], [list, len(lines)] * 2)
        for other, walk in zip(lines, walks):
            self.assertLessEqual(self.walk_found(lines[number], other, walk, way), fraction(square))
        for line, show in zip(lines, shows):
            self.assertEqual([type(show), len(show), type(show[0])], [tuple, 2, int])
            to, fence = show
            self.assertTrue(0 <= to < len(lines))
            self.assertGreaterEqual(self.fence_found(line, lines[to], fence, way), fraction(square))
        return number, fraction(square)

    def check(self, lines, way):
        far = [max(square_of_leash(line, other, way) for other in lines) for line in lines]
        self.assertEqual(self.amid(lines, way), (far.index(min(far)), min(far)), (lines, way))

    def test_lists_of_one_to_six(self):
        for way in WAYS:
            self.assertEqual(self.amid(LEVEL[:1], way), (0, 0))
            self.assertEqual(self.amid(LEVEL[:2], way), (0, 1))
            self.assertEqual(self.amid(LEVEL[:3], way), (1, 4))
            self.assertEqual(self.amid(LEVEL[:4], way), (2, 9))
            self.assertEqual(self.amid(LEVEL[:5], way), (3, 36))
            self.assertEqual(self.amid(LEVEL[:6], way), (3, 81))
            self.assertEqual(self.amid(LEVEL[::-1], way), (2, 81))

    def test_several_with_one_square(self):
        for way in WAYS:
            self.assertEqual(self.amid([LEVEL[2]] * 4, way), (0, 0))
            self.assertEqual(self.amid([LEVEL[0], LEVEL[2], LEVEL[2], LEVEL[3]], way), (1, 9))
            self.assertEqual(self.amid([[(0, 0)], [(3, 0)], [(0, 3)], [(3, 3)]], way), (0, 18))
            self.assertEqual(self.amid([[(0, 0)], [(3, 0)], [(4, 0)], [(7, 0)]], way), (1, 16))

    def test_each_line_goes_first(self):
        # By "part" it is the other one that may be gone in part: from the short one all are near, but not to it.
        short, long, longer = [(2, 0), (5, 0)], [(0, 0), (10, 0)], [(-4, 0), (14, 0)]
        self.assertEqual(self.amid([longer, long, short], "part"), (2, 0))
        self.assertEqual(self.amid([longer, long, short], "on")[0], 1)

    def test_where_nothing_is_handed_in_on_is_meant(self):
        lines = [[(0, 0), (7, 1), (3, 1), (10, 0)], [(0, 0), (10, 0)], [(0, 2), (10, 2)]]
        self.assertEqual(midst(lines), midst(lines, "on"))
        self.assertEqual(self.amid(lines), (0, 5))
        self.assertEqual(self.amid(lines, "free"), (0, 4))

    def test_lines_by_chance(self):
        chance = random.Random(257)
        for way, reach in itertools.product(WAYS, (1, 3, 9, TOP)):
            for step in range(3):
                self.check(some_lines(chance, chance.randint(1, 4), 4, reach), way)
            self.check(some_lines(chance, chance.randint(5, 6), 3, reach), way)

    def test_refusals(self):
        self.check_refused(NoLines, midst, [])
        for way in WAYS:
            self.check_refused(NoLines, midst, [], way)
        for thing in things_no_way():
            self.check_refused(NoWay, midst, LEVEL, thing)
            self.check_refused(NoWay, midst, [], thing)

    def test_the_askers_own_and_nothing_changed(self):
        for way in WAYS:
            self.check_own(lambda: midst(LEVEL, way))
            self.check_own(lambda: midst([LEVEL[0]] * 6, way))
            self.check_own(lambda: midst([[(1, 1)], [(2, 2)], [(1, 1)]], way))
            self.check_stays(midst, [list(line) for line in LEVEL], way)


if __name__ == "__main__":
    unittest.main()
