import copy
import itertools
import random
import unittest
from fractions import Fraction
from math import ceil, floor

from samples import LINES, TOP, fraction, places_of, square_at, things_no_place, things_not_whole, told
from test_ways import WAYS, things_no_way

from oneleash.errors import LeashError, NoWalk, NoWay
from oneleash.walks import is_walk, walk_square


def pair(x, y):
    return (told(x), told(y))


def walk_of(*pairs):
    return [pair(Fraction(x), Fraction(y)) for x, y in pairs]


def one_stretch(x, y):
    return any(k <= x <= k + 1 and k <= y <= k + 1 for k in (ceil(x) - 1, floor(x)))


def right_step(way, x, y):
    if way == "hops":
        return x.denominator == 1 and y.denominator == 1 and (y == x or y == x + 1)
    return one_stretch(x, y) and (way == "free" or x <= y)


def right_walk(one, other, walk, way):
    """By the words; walk a list of one or more tuples of places."""
    pairs = [(fraction(x), fraction(y)) for x, y in walk]
    n, m = len(one) - 1, len(other) - 1
    if way == "part":
        ends = pairs[0][0] == 0 and pairs[-1][0] == n
    else:
        ends = pairs[0] == (0, 0) and pairs[-1] == (n, m)
    return ends and all(right_step(way, a, c) and right_step(way, b, d) for (a, b), (c, d) in zip(pairs, pairs[1:]))


def greatest_square(one, other, walk):
    return told(max(square_at(one, x, other, y) for x, y in walk))


def even_walk(one, other, count):
    """A walk on of so many pairs or some more, evenly, with a pair at each corner."""
    n, m = len(one) - 1, len(other) - 1
    parts = {Fraction(k, count - 1) for k in range(count)}
    parts |= {Fraction(k, n) for k in range(n)} | {Fraction(k, m) for k in range(m)}
    return [pair(part * n, part * m) for part in sorted(parts)]


ONE = [(0, 0), (4, 0), (8, 0)]
OTHER = [(0, 3), (4, 3), (4, 6), (8, 3)]


class IsWalk(unittest.TestCase):
    def check(self, one, other, walk, ways):
        for way in WAYS:
            right = way in ways.split()
            self.assertIs(is_walk(one, other, walk, way), right, (walk, way))
            if right:
                self.assertEqual(walk_square(one, other, walk, way), greatest_square(one, other, walk))
            else:
                with self.assertRaises(NoWalk):
                    walk_square(one, other, walk, way)
        self.assertIs(is_walk(one, other, walk), "on" in ways.split(), walk)

    def test_steps_that_stay_and_pass_corners(self):
        self.check(ONE, OTHER, walk_of((0, 0), (1, 1), (1, 2), (2, 3)), "on part free hops")
        self.check(ONE, OTHER, walk_of((0, 0), (0, 0), (1, 1), (1, 1), (1, 2), (2, 3), (2, 3)), "on part free hops")
        self.check(ONE, OTHER, walk_of((0, 0), ("1/2", 1), (1, "3/2"), ("3/2", 2), (2, 3)), "on part free")
        self.check(ONE, OTHER, walk_of((0, 0), ("1/2", 1), ("3/2", 2), (2, 3)), "")
        self.check(ONE, OTHER, walk_of((0, 0), (1, "1/2"), ("1", "3/2"), (1, 2), (2, 3)), "")
        self.check(ONE, OTHER, walk_of((0, 0), (1, 1), (2, 2), (2, 3)), "on part free hops")
        self.check(ONE, OTHER, walk_of((0, 0), (2, 1), (2, 2), (2, 3)), "")
        self.check(ONE, OTHER, walk_of((0, 0), (1, 2), (2, 3)), "")
        self.check(ONE, OTHER, walk_of((0, 0), (1, 1), (1, 2), (1, 3), (2, 3)), "on part free hops")

    def test_steps_that_fall(self):
        self.check(ONE, OTHER, walk_of((0, 0), (1, 1), ("1/2", 2), (1, 2), (2, 3)), "free")
        self.check(ONE, OTHER, walk_of((0, 0), (1, 1), (1, 2), (2, "5/2"), (2, 2), (2, 3)), "free")
        self.check(ONE, OTHER, walk_of((0, 0), (1, 1), (1, 2), (0, 1), (1, 2), (2, 3)), "free")
        self.check(ONE, OTHER, walk_of((0, 0), (1, 1), (1, 2), (1, 0), (1, 1), (1, 2), (2, 3)), "")
        tiny = Fraction(1, 10 ** 108)
        self.check(ONE, OTHER, walk_of((0, 0), (1, 1), (1 - tiny, 1), (1, 2), (2, 3)), "free")
        self.check(ONE, OTHER, walk_of((0, 0), (1 - tiny, 1), (1 + tiny, 2), (2, 3)), "")
        self.check(ONE, OTHER, walk_of((0, 0), (1 - tiny, 1), (1, 2), (2, 3)), "on part free")

    def test_ends(self):
        self.check(ONE, OTHER, walk_of((0, 1), (1, 1), (1, 2), (2, 3)), "part")
        self.check(ONE, OTHER, walk_of((0, 0), (1, 1), (1, 2), (2, 2)), "part")
        self.check(ONE, OTHER, walk_of((0, "7/3"), (1, "7/3"), (2, "17/6")), "part")
        self.check(ONE, OTHER, walk_of((0, 3), (1, 3), (2, 3)), "part")
        self.check(ONE, OTHER, walk_of((0, 3), (1, "5/2"), (2, 3)), "")
        self.check(ONE, OTHER, walk_of((1, 0), (1, 1), (1, 2), (2, 3)), "")
        self.check(ONE, OTHER, walk_of((0, 0), (1, 1), (1, 2), (1, 3)), "")
        self.check(ONE, OTHER, walk_of(("1/9", 0), (1, 1), (1, 2), (2, 3)), "")
        self.check(ONE, OTHER, walk_of((0, 0), (1, 1), (1, 2), ("17/9", 3)), "")
        self.check(ONE, OTHER, walk_of((0, 0)), "")
        self.check(ONE, OTHER, walk_of((2, 3)), "")
        self.check(ONE, OTHER, walk_of((2, 3), (1, 2), (1, 1), (0, 0)), "")

    def test_lines_of_one_corner(self):
        point = [(1, 1)]
        self.check(point, point, walk_of((0, 0)), "on part free hops")
        self.check(point, point, walk_of((0, 0), (0, 0), (0, 0)), "on part free hops")
        self.check(point, OTHER, walk_of((0, 0)), "part")
        self.check(point, OTHER, walk_of((0, "1/2")), "part")
        self.check(point, OTHER, walk_of((0, "1/2"), (0, "1/3")), "")
        self.check(point, OTHER, walk_of((0, 0), (0, 1), (0, 2), (0, 3)), "on part free hops")
        self.check(point, OTHER, walk_of((0, 0), (0, 1), (0, "4/3"), (0, 2), (0, 3)), "on part free")
        self.check(point, OTHER, walk_of((0, 0), (0, 1), (0, "1/3"), (0, 1), (0, 2), (0, 3)), "free")
        self.check(ONE, point, walk_of((0, 0), (1, 0), (2, 0)), "on part free hops")
        self.check(ONE, point, walk_of((0, 0)), "")
        self.check(ONE, point, walk_of((0, 0), (2, 0)), "")

    def test_all_short_lists_against_the_words(self):
        places = [told(Fraction(k, 2)) for k in range(5)]
        for one, other, longest in (([(0, 0)], [(1, 0), (3, 1), (2, 2)], 4), ([(0, 0), (2, 1)], [(1, 3), (0, 1)], 4),
                                    ([(0, 0), (2, 1), (2, 5)], [(1, 3), (0, 1)], 3)):
            pairs = [(x, y) for x in places[:2 * len(one) - 1] for y in places[:2 * len(other) - 1]]
            for length in range(1, longest + 1):
                for walk in itertools.product(pairs, repeat=length):
                    walk = list(walk)
                    for way in WAYS:
                        right = right_walk(one, other, walk, way)
                        self.assertIs(is_walk(one, other, walk, way), right, (one, other, walk, way))

    def test_walks_astray_against_the_words(self):
        chance = random.Random(13)
        found = {way: [0, 0] for way in WAYS}
        for step in range(1200):
            one, other = chance.choice(LINES[3:]), chance.choice(LINES[3:])
            walk = [((0, 1), (0, 1))]
            whole = chance.random() < 0.5
            while walk[-1] != ((len(one) - 1, 1), (len(other) - 1, 1)) and len(walk) < 60:
                walk.append((self.moved(chance, one, walk[-1][0], whole), self.moved(chance, other, walk[-1][1], whole)))
            if chance.random() < 0.3:
                number = chance.randrange(len(walk))
                walk[number] = (chance.choice(places_of(one)), walk[number][1])
            for way in WAYS:
                right = right_walk(one, other, walk, way)
                found[way][right] += 1
                self.assertIs(is_walk(one, other, walk, way), right, (one, other, walk, way))
                if right:
                    self.assertEqual(walk_square(one, other, walk, way), greatest_square(one, other, walk))
        for way in WAYS:
            self.assertGreater(min(found[way]), 100, found)

    def moved(self, chance, line, place, whole):
        """A place a little ahead, seldom one behind."""
        number = fraction(place)
        if whole:
            return told(min(number + chance.choice([0, 1, 1, 1]), len(line) - 1))
        spots = places_of(line)
        here = spots.index(place)
        near = [spot for spot in spots[max(here - 6, 0):here + 7] if one_stretch(fraction(spot), number)]
        ahead = [spot for spot in near if fraction(spot) >= number]
        return chance.choice(near if chance.random() < 0.03 else ahead[-4:])

    def test_two_hundred_pairs(self):
        one, other = LINES[8], LINES[7]
        walk = even_walk(one, other, 188)
        self.assertEqual(len(walk), 200)
        self.check(one, other, walk, "on part free")
        self.check(one, other, walk[:100] + walk[98:], "free")
        stays = [pair(min(k // 9, 9), min(k // 20, 5)) for k in range(200)]
        self.check(one, other, stays, "on part free hops")
        self.check(one, other, walk[:77] + walk[103:], "")

    def test_numbers_at_the_bounds(self):
        one, other = [(-TOP, -TOP), (TOP, TOP)], [(TOP, TOP), (-TOP, -TOP)]
        self.assertEqual(walk_square(one, other, walk_of((0, 0), (1, 1))), (8 * TOP * TOP, 1))
        fine = Fraction(10 ** 109 - 7, 10 ** 110 - 1)
        self.check(one, other, walk_of((0, 0), (fine, fine), (1, 1)), "on part free")


class WalkSquare(unittest.TestCase):
    def test_some_by_hand(self):
        self.assertEqual(walk_square(ONE, OTHER, walk_of((0, 0), (1, 1), (1, 2), (2, 3))), (36, 1))
        self.assertEqual(walk_square(ONE, OTHER, walk_of((0, 0), (1, 1), (1, 2), (2, 3)), "hops"), (36, 1))
        self.assertEqual(walk_square(ONE, ONE, walk_of((0, 0), (1, 1), (2, 2))), (0, 1))
        self.assertEqual(walk_square(ONE, ONE, walk_of((0, 0), (1, "2/3"), (1, 1), (2, 2)), "free"), (16, 9))
        self.assertEqual(walk_square([(0, 0)], OTHER, walk_of((0, "1/2")), "part"), (13, 1))

    def test_the_greatest_wherever_it_stands(self):
        one = [(0, 0), (0, 0), (0, 0), (0, 0)]
        for high in range(4):
            other = [(1 + 6 * (k == high), 0) for k in range(4)]
            walk = walk_of((0, 0), (1, 1), (2, 2), (3, 3))
            for way in WAYS:
                self.assertEqual(walk_square(one, other, walk, way), (49, 1))

    def test_what_lies_between_is_not_greater(self):
        one, other = LINES[7], LINES[8]
        walk = even_walk(one, other, 20)
        greatest = fraction(walk_square(one, other, walk))
        finer = []
        for (a, b), (c, d) in zip(walk, walk[1:]):
            finer += [(a, b), (told((fraction(a) + fraction(c)) / 2), told((fraction(b) + fraction(d)) / 2))]
        finer.append(walk[-1])
        self.assertEqual(fraction(walk_square(one, other, finer)), greatest)


class Anything(unittest.TestCase):
    def things_no_walk(self):
        right = walk_of((0, 0), (1, 1), (1, 2), (2, 3))
        wrong = list(things_not_whole())
        wrong += [0, 7, [], (), tuple(right), {0: right[0]}, set(right), iter(right), [right], (right,),
                  [list(step) for step in right], right[:-1] + [list(right[-1])], [list(right[0])] + right[1:],
                  right[:1] + [None] + right[1:], right[:1] + [()] + right[1:], right + [()], [()] + right,
                  right[:1] + [((0, 1),)] + right[1:], right[:1] + [((1, 1), (1, 1), (1, 1))] + right[2:],
                  [((0, 1), (0, 1), (0, 1))] + right[1:], [(0, 0), (1, 1), (1, 2), (2, 3)],
                  right[:1] + [([1, 1], (1, 1))] + right[2:], right[:1] + [((1, 1), [1, 1])] + right[2:]]
        for thing in things_not_whole():
            wrong += [[thing], right[:1] + [thing] + right[1:], right + [thing]]
        for thing in things_no_place(ONE):
            wrong += [right[:1] + [(thing, (1, 1))] + right[1:], [(thing, (0, 1))] + right[1:]]
        for thing in things_no_place(OTHER):
            wrong += [right[:1] + [((1, 1), thing)] + right[1:], right[:-1] + [((2, 1), thing)]]
        return wrong

    def test_what_is_no_walk(self):
        for thing in self.things_no_walk():
            with self.subTest(thing=repr(thing)):
                for way in WAYS:
                    self.assertIs(is_walk(ONE, OTHER, thing, way), False)
                    with self.assertRaises(NoWalk):
                        walk_square(ONE, OTHER, thing, way)
                self.assertIs(is_walk(ONE, OTHER, thing), False)
                with self.assertRaises(NoWalk):
                    walk_square(ONE, OTHER, thing)

    def test_a_place_past_the_line_it_is_on(self):
        self.assertIs(is_walk(ONE, OTHER, walk_of((0, 0), (1, 1), (2, 2), (2, 3))), True)
        for way in WAYS:
            self.assertIs(is_walk(ONE, OTHER, walk_of((0, 0), (1, 1), (2, 2), (3, 3), (2, 3)), way), False)
            self.assertIs(is_walk(OTHER, ONE, walk_of((0, 0), (1, 1), (2, 2), (2, 3)), way), False)

    def test_a_way_that_is_none_goes_ahead_of_all_else(self):
        right = walk_of((0, 0), (1, 1), (1, 2), (2, 3))
        for way in things_no_way():
            with self.subTest(way=repr(way)):
                for handed in (right, right[:-1], [], None, 5, "on"):
                    with self.assertRaises(NoWay):
                        is_walk(ONE, OTHER, handed, way)
                    with self.assertRaises(NoWay):
                        walk_square(ONE, OTHER, handed, way)

    def test_the_refusal_stands_under_leash_error(self):
        with self.assertRaises(LeashError):
            walk_square(ONE, OTHER, [])
        with self.assertRaises(LeashError):
            walk_square(ONE, OTHER, [], "away")

    def test_nothing_handed_in_is_changed(self):
        walk = walk_of((0, 0), (1, 1), (1, 2), (2, 3))
        handed = [copy.deepcopy(ONE), copy.deepcopy(OTHER), copy.deepcopy(walk)]
        for way in WAYS:
            self.assertIs(is_walk(*handed, way), True)
            self.assertEqual(walk_square(*handed, way), (36, 1))
            self.assertEqual(walk_square(*handed, way), (36, 1))
        with self.assertRaises(NoWay):
            is_walk(*handed, "away")
        self.assertEqual(handed, [ONE, OTHER, walk])

    def test_nothing_handed_in_is_kept(self):
        one, other, walk = list(ONE), list(OTHER), walk_of((0, 0), (1, 1), (1, 2), (2, 3))
        self.assertEqual(walk_square(one, other, walk), (36, 1))
        other[2] = (4, 7)
        self.assertEqual(walk_square(one, other, walk), (49, 1))
        walk.pop()
        self.assertIs(is_walk(one, other, walk), False)
        one.append((9, 9))
        self.assertIs(is_walk(one, other, walk_of((0, 0), (1, 1), (2, 2), (3, 3))), True)


class SameSquares(unittest.TestCase):
    def test_both_lines_exchanged_or_both_turned_about(self):
        for one, other in itertools.product(LINES[3:], repeat=2):
            walk = even_walk(one, other, 12)
            square = walk_square(one, other, walk)
            for way in ("on", "free"):
                self.assertEqual(walk_square(other, one, [(y, x) for x, y in walk], way), square)
                back = [pair(len(one) - 1 - fraction(x), len(other) - 1 - fraction(y)) for x, y in walk[::-1]]
                self.assertEqual(walk_square(one[::-1], other[::-1], back, way), square)

    def test_a_corner_doubled(self):
        walk = walk_of((0, 0), (1, 1), (1, 2), (2, 3))
        for corner in range(3):
            doubled = ONE[:corner + 1] + ONE[corner:]
            number = [x for x, y in walk].index((corner, 1))
            moved = walk[:number + 1] + [((x[0] + 1, 1), y) for x, y in walk[number:]]
            for way in WAYS:
                self.assertEqual(walk_square(doubled, OTHER, moved, way), (36, 1))

    def test_a_corner_put_in_on_a_stretch(self):
        split = [(0, 0), (1, 0), (4, 0), (8, 0)]
        walk = walk_of((0, 0), (1, "1/4"), (2, 1), (2, 2), (3, 3))
        self.assertEqual(walk_square(split, OTHER, walk),
                         walk_square(ONE, OTHER, walk_of((0, 0), ("1/4", "1/4"), (1, 1), (1, 2), (2, 3))))


if __name__ == "__main__":
    unittest.main()
