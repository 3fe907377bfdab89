"""What several tests look at: whether what is told is what it is called."""

import copy
import itertools
import random
import unittest
from fractions import Fraction

from samples import LINES, fraction, told
from test_fences import least_from, least_measured, right_fence
from test_gates import things_no_square
from test_walks import greatest_square, right_walk

from oneleash.errors import LeashError, NoSquare
from oneleash.fences import fence_square, is_fence
from oneleash.freely import go_free
from oneleash.going import go_on, go_part
from oneleash.hopping import go_hops
from oneleash.walks import is_walk, walk_square

ASK = {"on": go_on, "part": go_part, "free": go_free, "hops": go_hops}
TINY = Fraction(1, 10 ** 100)


def square_apart(a, b):
    return Fraction((a[0] - b[0]) ** 2 + (a[1] - b[1]) ** 2)


def turns_beside(corners, begin, end):
    """Where corners begin to reach a stretch, and where two of them reach it at one place."""
    turns = {least_from(corner, begin, end) for corner in corners}
    for a, c in itertools.combinations(corners, 2):
        slope = 2 * ((end[0] - begin[0]) * (c[0] - a[0]) + (end[1] - begin[1]) * (c[1] - a[1]))
        if slope:
            t = (square_apart(begin, c) - square_apart(begin, a)) / slope
            if 0 <= t <= 1:
                turns.add(sum((p + t * (q - p) - s) ** 2 for p, q, s in zip(begin, end, a)))
    return turns


def turning_squares(one, other):
    """All squares at which something can turn, rising."""
    turns = {square_apart(a, b) for a in one for b in other}
    for line, corners in ((one, other), (other, one)):
        for begin, end in zip(line, line[1:]):
            turns |= turns_beside(corners, begin, end)
    return sorted(turns)


def chance_line(chance, most, reach):
    return [(chance.randint(-reach, reach), chance.randint(-reach, reach)) for corner in range(chance.randint(1, most))]


def widened(line):
    """With all numbers doubled there is a corner in the middle of each stretch."""
    return [(2 * x, 2 * y) for x, y in line]


def split_line(chance, line):
    """Of even numbers: with a corner put in in the middle of a stretch, or the last one doubled."""
    number = chance.randrange(len(line))
    begin, end = line[number], line[min(number + 1, len(line) - 1)]
    middle = ((begin[0] + end[0]) // 2, (begin[1] + end[1]) // 2)
    return line[:number + 1] + [middle] + line[number + 1:]


def doubled_line(chance, line):
    number = chance.randrange(len(line))
    return line[:number + 1] + line[number:]


def lists_in(thing):
    """All lists and dicts in what is told."""
    found = [thing] if isinstance(thing, (list, dict)) else []
    if isinstance(thing, (list, tuple)):
        for part in thing:
            found += lists_in(part)
    return found


class Checks(unittest.TestCase):
    def check_pairs(self, pairs):
        self.assertIs(type(pairs), list)
        self.assertTrue(1 <= len(pairs) <= 200)
        for step in pairs:
            self.assertEqual([type(step), len(step)], [tuple, 2])
            for place in step:
                self.assertEqual([type(place), len(place)], [tuple, 2])
                self.assertEqual([type(number) for number in place], [int, int])
                self.assertLess(max(abs(number) for number in place), 10 ** 1000)

    def walk_found(self, one, other, pairs, way):
        """The square of what is told as a walk; that it is one is looked at by the words, too."""
        shown = (one, other, way, pairs)
        self.check_pairs(pairs)
        self.assertIs(is_walk(one, other, pairs, way), True, shown)
        self.assertIs(right_walk(one, other, pairs, way), True, shown)
        found = walk_square(one, other, pairs, way)
        self.assertEqual(found, greatest_square(one, other, pairs), shown)
        return fraction(found)

    def fence_found(self, one, other, pairs, way):
        """Likewise of what is told as a fence."""
        shown = (one, other, way, pairs)
        self.check_pairs(pairs)
        self.assertIs(is_fence(one, other, pairs, way), True, shown)
        self.assertIs(right_fence(one, other, pairs, way), True, shown)
        found = fence_square(one, other, pairs, way)
        self.assertEqual(found, least_measured(one, other, pairs, way), shown)
        return fraction(found)

    def ask(self, one, other, square, way):
        """The word, the pairs and their square."""
        square = Fraction(square)
        answer = ASK[way](one, other, told(square))
        self.assertEqual([type(answer), len(answer)], [tuple, 2])
        word, pairs = answer
        self.assertIn(word, ("walk", "fence"))
        if word == "walk":
            found = self.walk_found(one, other, pairs, way)
            self.assertLessEqual(found, square, (one, other, way))
        else:
            found = self.fence_found(one, other, pairs, way)
            self.assertGreater(found, square, (one, other, way))
        return word, pairs, found

    def word(self, one, other, square, way):
        return self.ask(one, other, square, way)[0]

    def check_turn(self, one, other, turn, way):
        """It turns from fence to walk just at that square."""
        turn = Fraction(turn)
        word, pairs, found = self.ask(one, other, turn, way)
        self.assertEqual((word, found), ("walk", turn), (one, other, way))
        for more in (TINY, Fraction(1, 1000), Fraction(1), turn, Fraction(10 ** 109)):
            self.assertEqual(self.word(one, other, turn + more, way), "walk", (one, other, way))
        for bit in (TINY, Fraction(1, 1000), turn / 2, turn):
            if bit and turn - bit >= 0:
                word, pairs, found = self.ask(one, other, turn - bit, way)
                self.assertEqual(word, "fence", (one, other, way))
                self.assertLessEqual(found, turn)

    def turn_of(self, one, other, way):
        """The square at which it turns, sought among all at which it can."""
        turns = turning_squares(one, other)
        low, high = -1, len(turns) - 1
        while high - low > 1:
            number = (low + high) // 2
            if self.word(one, other, turns[number], way) == "walk":
                high = number
            else:
                low = number
        return turns[high]

    def check_all_about(self, one, other, turn, way):
        self.check_turn(one, other, turn, way)
        self.check_turn(one[::-1], other[::-1], turn, way)
        if way != "part":
            self.check_turn(other, one, turn, way)

    def check_own(self, ask):
        """What is told twice is the same each time and shares nothing; nor does it with what was handed in."""
        first, second = ask(), ask()
        self.assertEqual(first, second)
        lists = lists_in(first) + lists_in(second)
        self.assertEqual(len({id(part) for part in lists}), len(lists))
        kept = copy.deepcopy(first)
        for part in lists_in(second):
            part.clear()
        self.assertEqual(first, kept)
        for part in lists_in(first):
            part.append(None)
        self.assertEqual(ask(), kept)

    def check_stays(self, ask, *given):
        """What is handed in stays as it was, and is not kept."""
        kept = copy.deepcopy(given)
        answer = ask(*given)
        self.assertEqual(given, kept)
        shown = copy.deepcopy(answer)
        for part in lists_in(given):
            part.clear()
        self.assertEqual(answer, shown)
        self.assertEqual(ask(*kept), shown)

    def check_refused(self, error, ask, *given):
        """By its class, and nothing is changed."""
        kept = copy.deepcopy([part for part in given if isinstance(part, list)])
        with self.assertRaises(LeashError) as caught:
            ask(*given)
        self.assertIs(type(caught.exception), error, repr(given)[:1000])
        self.assertEqual([part for part in given if isinstance(part, list)], kept)

    def check_no_square(self, ask):
        for thing in things_no_square():
            with self.subTest(thing=repr(thing)):
                for one, other in ((LINES[4], LINES[7]), (LINES[0], LINES[0]), (LINES[0], LINES[4])):
                    self.check_refused(NoSquare, ask, one, other, thing)

    def check_goes(self, ask):
        """Of a function that goes on a leash: the same answer again, the asker's own, and nothing changed."""
        for square in ((0, 1), (30, 1), (1000, 1)):
            for one, other in ((LINES[4], LINES[7]), (LINES[0], LINES[4]), (LINES[7], LINES[0]), (LINES[0], LINES[0])):
                self.check_own(lambda: ask(one, other, square))
                self.check_own(lambda: ask(one, one, square))
                self.check_stays(ask, list(one), list(other), square)
        chance = random.Random(127)
        for step in range(40):
            one, other = chance_line(chance, 6, 6), chance_line(chance, 6, 6)
            self.check_stays(ask, one, other, told(Fraction(chance.randint(0, 150), chance.randint(1, 3))))
