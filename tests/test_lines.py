import copy
import unittest

from samples import LINES, TOP, is_unit, things_not_whole

from oneleash.errors import LeashError, NoLine
from oneleash.lines import is_line, last_of, line_of


def things_no_line():
    wrong = list(things_not_whole())
    wrong += [0, 1, [], (), ((0, 0), (1, 1)), tuple([(0, 0)]), {0: (0, 0)}, "00", [[0, 0]], [[0, 0], [1, 1]],
              [(0, 0), [1, 1]], [[0, 0], (1, 1)], [(0, 0)] * 11, [(k, k) for k in range(12)], [()], [(0,)],
              [(0, 0, 0)], [(0, 0), (1, 1, 1)], [(0, 0), None], [None], [[]], [[(0, 0)]], [(0, 0), ((0, 0),)],
              [((0, 1), (0, 1))], {(0, 0)}, iter([(0, 0)])]
    for number in (TOP + 1, -TOP - 1, 10 ** 12, -10 ** 12, 10 ** 110):
        wrong += [[(number, 0)], [(0, number)], [(0, 0), (1, number)], [(0, 0), (number, 1), (2, 2)]]
    for thing in things_not_whole():
        wrong += [[(thing, 0)], [(0, thing)], [(0, 0), (1, thing)], [(0, 0), (thing, 1)]]
        # A pair of whole numbers is the one of these things that is a corner.
        wrong += [] if is_unit(thing) else [[thing], [(0, 0), thing]]
    return wrong


class Lines(unittest.TestCase):
    def test_lines(self):
        for line in LINES + [[(TOP, TOP)] * 10, [(-TOP, TOP), (TOP, -TOP)], [(0, 0)] * 10]:
            self.assertIs(is_line(line), True, line)
            self.assertEqual(line_of(line), line)
            self.assertIs(type(line_of(line)), list)
            self.assertEqual(last_of(line), len(line) - 1)

    def test_of_one_to_ten_corners(self):
        for count in range(14):
            line = [(k, -k) for k in range(count)]
            self.assertIs(is_line(line), 1 <= count <= 10, count)
            if 1 <= count <= 10:
                self.assertEqual(last_of(line_of(line)), count - 1)
            else:
                with self.assertRaises(NoLine):
                    line_of(line)

    def test_all_else_is_none(self):
        for thing in things_no_line():
            with self.subTest(thing=repr(thing)):
                self.assertIs(is_line(thing), False)
                with self.assertRaises(NoLine):
                    line_of(thing)

    def test_the_refusal_stands_under_leash_error(self):
        with self.assertRaises(LeashError):
            line_of([])

    def test_what_is_handed_in_stays_and_what_is_told_is_the_askers_own(self):
        for line in LINES:
            handed = copy.deepcopy(line)
            first = line_of(handed)
            self.assertIsNot(first, handed)
            first.append((9, 9))
            first[0] = (8, 8)
            self.assertEqual(handed, line)
            second = line_of(handed)
            self.assertEqual(second, line)
            handed.clear()
            self.assertEqual(second, line)
            self.assertIs(is_line(second), True)
            self.assertEqual(second, line)


if __name__ == "__main__":
    unittest.main()
