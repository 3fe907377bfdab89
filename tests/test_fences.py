import copy
import itertools
import random
import unittest
from fractions import Fraction

from samples import LINES, TOP, fraction, places_of, square_at, stretch_point, things_no_place, things_not_whole, told
from test_walks import even_walk, one_stretch, pair, walk_of
from test_ways import WAYS, things_no_way

from oneleash.errors import LeashError, NoFence, NoWay
from oneleash.fences import fence_square, is_fence
from oneleash.walks import is_walk, walk_square


def whole(number):
    return number.denominator == 1


def goes_back(begin, end):
    return end[0] <= begin[0] and end[1] >= begin[1]


def goes_down(begin, end):
    return begin[0] == end[0] and whole(begin[0]) and end[1] < begin[1] and one_stretch(begin[1], end[1])


def goes_over(begin, end):
    return begin[1] == end[1] and whole(begin[1]) and end[0] > begin[0] and one_stretch(begin[0], end[0])


def goes_along(begin, end):
    """A step of a free fence."""
    keeps_x = begin[0] == end[0] and whole(begin[0]) and one_stretch(begin[1], end[1])
    keeps_y = begin[1] == end[1] and whole(begin[1]) and one_stretch(begin[0], end[0])
    return keeps_x or keeps_y


def goes_aside(begin, end):
    """A step of a fence of hops."""
    (x, y), (a, b) = begin, end
    return a <= x and b >= y - 1 or a <= x + 1 and b >= y


def right_fence_step(way, begin, end):
    if way == "hops":
        return goes_aside(begin, end)
    if way == "free":
        return goes_along(begin, end)
    return goes_back(begin, end) or goes_down(begin, end) or goes_over(begin, end)


def right_first(way, x, y, n, m):
    return y == m if way == "part" else x == 0 or y == m


def right_last(way, x, y, n, m):
    return y == 0 if way == "part" else x == n or y == 0


def right_fence(one, other, fence, way):
    """By the words; fence a list of one or more tuples of places."""
    pairs = [(fraction(x), fraction(y)) for x, y in fence]
    n, m = len(one) - 1, len(other) - 1
    if way == "hops" and not all(whole(x) and whole(y) for x, y in pairs):
        return False
    if not right_first(way, *pairs[0], n, m) or not right_last(way, *pairs[-1], n, m):
        return False
    return all(right_fence_step(way, begin, end) for begin, end in zip(pairs, pairs[1:]))


def least_from(point, begin, end):
    """The least square from a point to the way from begin to end, by Python's own fractions."""
    step = [b - a for a, b in zip(begin, end)]
    length = step[0] ** 2 + step[1] ** 2
    part = Fraction(0)
    if length:
        part = Fraction(sum((p - a) * s for p, a, s in zip(point, begin, step)), length)
    part = min(max(part, Fraction(0)), Fraction(1))
    return sum((a + part * s - p) ** 2 for p, a, s in zip(point, begin, step))


def least_measured(one, other, fence, way):
    """Of what is a fence."""
    squares = [square_at(one, x, other, y) for x, y in fence]
    for (x, y), (a, b) in zip(fence, fence[1:]):
        begin, end = (fraction(x), fraction(y)), (fraction(a), fraction(b))
        if way == "free" or way != "hops" and not goes_back(begin, end):
            if x == a:
                squares.append(least_from(stretch_point(one, x), stretch_point(other, y), stretch_point(other, b)))
            else:
                squares.append(least_from(stretch_point(other, y), stretch_point(one, x), stretch_point(one, a)))
    return told(min(squares))


def chance_fence(chance, one, other, way, spots, most=40):
    """A fence of some steps by the words, or what comes near to one."""
    n, m = len(one) - 1, len(other) - 1
    xs = [x for x in spots if x <= n and (way != "hops" or whole(x))]
    ys = [y for y in spots if y <= m and (way != "hops" or whole(y))]
    here = (chance.choice(xs), Fraction(m))
    if way != "part" and chance.random() < 0.5:
        here = (Fraction(0), chance.choice(ys))
    fence = [here]
    while not right_last(way, *here, n, m) and len(fence) < most:
        ahead = [(x, here[1]) for x in xs] + [(here[0], y) for y in ys]
        if chance.random() < 0.15:
            ahead += [(x, y) for x in xs for y in ys]
        ahead = [step for step in ahead if right_fence_step(way, here, step)]
        helpful = [step for step in ahead if step[0] > here[0] or step[1] < here[1]]
        if not ahead:
            break
        here = chance.choice(helpful if helpful and chance.random() < 0.7 else ahead)
        fence.append(here)
    return [pair(x, y) for x, y in fence]


def chance_walk(chance, one, other, way, spots):
    """A walk of the way on, or of hops, or of part with a begin and an end of its own."""
    n, m = len(one) - 1, len(other) - 1
    steps = [spot for spot in spots if whole(spot)] if way == "hops" else spots
    x, y = Fraction(0), chance.choice([spot for spot in steps if spot <= m]) if way == "part" else Fraction(0)
    walk = [(x, y)]
    while (x, y) != (n, m):
        fall = way == "free" and chance.random() < 0.2
        x = chance.choice([a for a in steps if (a <= x if fall else a >= x) and a <= n and one_stretch(x, a)])
        fall = way == "free" and chance.random() < 0.2
        y = chance.choice([b for b in steps if (b <= y if fall else b >= y) and b <= m and one_stretch(y, b)])
        walk.append((x, y))
        if way == "part" and x == n and chance.random() < 0.5:
            break
    return [pair(a, b) for a, b in walk]


fence_of = walk_of

ONE = [(0, 0), (4, 0), (8, 0)]
OTHER = [(0, 3), (4, 3), (4, 6), (8, 3)]


class Checks(unittest.TestCase):
    def check(self, one, other, fence, ways):
        for way in WAYS:
            right = way in ways.split()
            self.assertIs(is_fence(one, other, fence, way), right, (fence, way))
            self.assertIs(right_fence(one, other, fence, way), right, (fence, way))
            if right:
                self.assertEqual(fence_square(one, other, fence, way), least_measured(one, other, fence, way))
            else:
                with self.assertRaises(NoFence):
                    fence_square(one, other, fence, way)
        self.assertIs(is_fence(one, other, fence), "on" in ways.split(), fence)


class IsFence(Checks):
    def test_fences_of_one_pair(self):
        self.check(ONE, OTHER, fence_of((0, 0)), "on free hops")
        self.check(ONE, OTHER, fence_of((2, 3)), "on free hops")
        self.check(ONE, OTHER, fence_of((0, 3)), "")
        self.check(ONE, OTHER, fence_of((2, 0)), "")
        self.check(ONE, OTHER, fence_of((0, "1/2")), "")
        self.check(ONE, OTHER, fence_of((1, 1)), "")
        point = [(1, 1)]
        self.check(point, OTHER, fence_of((0, 2)), "on free hops")
        self.check(point, OTHER, fence_of((0, "7/3")), "on free")
        self.check(point, OTHER, fence_of((0, 0)), "on free hops")
        self.check(point, OTHER, fence_of((0, 3)), "on free hops")
        self.check(ONE, point, fence_of((1, 0)), "on part free hops")
        self.check(ONE, point, fence_of(("1/2", 0)), "on part free")
        self.check(ONE, point, fence_of((0, 0)), "on part free hops")
        self.check(ONE, point, fence_of((2, 0)), "on part free hops")
        self.check(point, point, fence_of((0, 0)), "on part free hops")
        self.check([(1, 1), (1, 1)], point, fence_of(("1/2", 0)), "on part free")

    def test_first_and_last_pairs(self):
        down = [(1, 3), (1, 2), (1, 1), (1, 0)]
        self.check(ONE, OTHER, fence_of(*down), "on part free hops")
        self.check(ONE, OTHER, fence_of(*down[1:]), "")
        self.check(ONE, OTHER, fence_of(*down[:-1]), "")
        self.check(ONE, OTHER, fence_of((1, 3), (1, 2), (1, 1), (1, "1/9")), "")
        self.check(ONE, OTHER, fence_of((1, "26/9"), (1, 2), (1, 1), (1, 0)), "")
        over = [(0, 1), (1, 1), (2, 1)]
        self.check(ONE, OTHER, fence_of(*over), "on free hops")
        self.check(ONE, OTHER, fence_of(*over[1:]), "")
        self.check(ONE, OTHER, fence_of(*over[:-1]), "")
        self.check(ONE, OTHER, fence_of(("1/9", 1), (1, 1), (2, 1)), "")
        self.check(ONE, OTHER, fence_of((0, 1), (1, 1), ("17/9", 1)), "")
        self.check(ONE, OTHER, fence_of((0, 1), (1, 1), (1, 0)), "on free hops")
        self.check(ONE, OTHER, fence_of((1, 3), (1, 2), (2, 2)), "on free hops")
        self.check(ONE, OTHER, fence_of((0, 3), (0, 2), (0, 1), (0, 0)), "on part free hops")
        self.check(ONE, OTHER, fence_of((0, "5/2"), (0, 2), (1, 2), (2, 2)), "on free")
        self.check(ONE, OTHER, fence_of(("1/2", 3), (1, 3), (1, 2), (1, 1), (1, 0)), "on part free")
        self.check(ONE, OTHER, fence_of((1, 3), (1, 2), (1, 1), (1, 0), ("3/2", 0)), "on part free")

    def test_steps_down(self):
        self.check(ONE, OTHER, fence_of((0, 2), (0, "3/2"), (0, 1), (0, "1/2"), (0, 0)), "on free")
        self.check(ONE, OTHER, fence_of((1, 3), (1, "5/2"), (1, "9/4"), (1, 2), (1, 1), (1, 0)), "on part free")
        # Past a corner.
        self.check(ONE, OTHER, fence_of((1, 3), (1, "5/2"), (1, "3/2"), (1, 1), (1, 0)), "")
        self.check(ONE, OTHER, fence_of((1, 3), (1, 1), (1, 0)), "")
        tiny = Fraction(1, 10 ** 108)
        self.check(ONE, OTHER, fence_of((1, 3), (1, 2), (1, 1 - tiny), (1, 0)), "")
        self.check(ONE, OTHER, fence_of((1, 3), (1, 2 + tiny), (1, 2), (1, 1), (1, 0)), "on part free")
        # Beside no corner of the one line.
        self.check(ONE, OTHER, fence_of(("1/2", 3), ("1/2", 2), ("1/2", 1), ("1/2", 0)), "")
        self.check(ONE, OTHER, fence_of(("1/2", 3), ("1/2", "5/2"), (1, "5/2")), "")
        self.check(ONE, OTHER, fence_of((1 - tiny, 3), (1 - tiny, 2)), "")
        # Both places change.
        self.check(ONE, OTHER, fence_of((0, 1), (1, "1/2"), (2, 0)), "")
        self.check(ONE, OTHER, fence_of((1, 3), (2, 2)), "")
        self.check(ONE, OTHER, fence_of((1, 3), (0, 2), (0, 1), (0, 0)), "hops")

    def test_steps_over(self):
        self.check(ONE, OTHER, fence_of((0, 1), ("1/3", 1), ("2/3", 1), (1, 1), ("3/2", 1), (2, 1)), "on free")
        self.check(ONE, OTHER, fence_of((0, 1), (2, 1)), "")
        self.check(ONE, OTHER, fence_of((0, 1), ("1/2", 1), ("3/2", 1), (2, 1)), "")
        self.check(ONE, OTHER, fence_of((0, "1/2"), (1, "1/2"), (2, "1/2")), "")
        tiny = Fraction(1, 10 ** 108)
        self.check(ONE, OTHER, fence_of((0, 1), (1 + tiny, 1), (2, 1)), "")
        self.check(ONE, OTHER, fence_of((0, 1), (1 - tiny, 1), (1, 1), (2, 1)), "on free")
        self.check(ONE, OTHER, fence_of((0, 1 + tiny), (1, 1 + tiny), (2, 1 + tiny)), "")

    def test_steps_back(self):
        # Far up and to the left, past corners, whole and not whole.
        self.check(ONE, OTHER, fence_of((0, 1), (1, 1), ("1/2", "5/2"), (0, 3), (0, 2), (1, 2), (2, 2)), "on")
        self.check(ONE, OTHER, fence_of((0, 1), (1, 1), (0, 3), (1, 3), (1, 2), (2, 2)), "on hops")
        self.check(ONE, OTHER, fence_of((2, 3), ("1/7", 3), (1, 3), (1, 2), (1, 1), (1, 0)), "on part")
        self.check(ONE, OTHER, fence_of((2, 3), (2, "5/2"), ("3/2", "5/2"), (1, "5/2"), (1, 2), (1, 1), (1, 0)),
                   "on part")
        # Of one place alone, within a stretch: back, and free where the place that stays is whole.
        self.check(ONE, OTHER, fence_of((1, 3), (1, "5/2"), (1, 3), (1, 2), (1, 1), (1, 0)), "on part free")
        self.check(ONE, OTHER, fence_of((0, 1), (1, 1), ("1/2", 1), (1, 1), (2, 1)), "on free")
        self.check(ONE, OTHER, fence_of((0, 1), (1, 1), (0, 1), (1, 1), (2, 1)), "on free hops")
        self.check(ONE, OTHER, fence_of((1, 3), (1, 2), (1, 3), (1, 2), (1, 1), (1, 0)), "on part free hops")
        self.check(ONE, OTHER, fence_of((0, 1), (1, 1), (2, 1), (0, 1), (1, 1), (2, 1)), "on hops")
        self.check(ONE, OTHER, fence_of((0, 0), (0, 3), (0, 2), (0, 1), (0, 0)), "on hops")
        # The other way about it is none.
        self.check(ONE, OTHER, fence_of((0, 3), ("1/2", "5/2"), (1, 2), (2, 2)), "")
        self.check(ONE, OTHER, fence_of((0, 3), (0, 2), ("1/2", "3/2"), (1, 1), (1, 0)), "")

    def test_steps_to_an_equal_pair(self):
        self.check(ONE, OTHER, fence_of((0, 1), (0, 1), (1, 1), (1, 1), (2, 1), (2, 1)), "on free hops")
        self.check(ONE, OTHER, fence_of((0, 1), ("1/2", 1), ("1/2", 1), (1, 1), (2, 1)), "on free")
        self.check(ONE, OTHER, fence_of((0, "1/2"), (0, "1/2"), (0, 0)), "on free")
        self.check(ONE, OTHER, fence_of((1, 3), ("1/2", 3), ("1/2", 3), ("1/3", 3), (1, 3), (1, 2), (2, 2)), "on free")
        # No place of it is whole: a step back alone.
        lonely = ("1/2", "5/2")
        for count in (1, 2, 3):
            fence = [(1, 3), (1, "5/2")] + [lonely] * count + [(0, "5/2"), (0, 2), (1, 2), (2, 2)]
            self.check(ONE, OTHER, fence_of(*fence), "on")

    def test_steps_of_a_fence_of_hops(self):
        self.check(ONE, OTHER, fence_of((0, 1), (1, 2), (1, 1), (2, 1)), "hops")
        self.check(ONE, OTHER, fence_of((0, 1), (1, 3), (2, 3)), "hops")
        self.check(ONE, OTHER, fence_of((1, 3), (0, 2), (1, 2), (2, 3)), "hops")
        self.check(ONE, OTHER, fence_of((2, 3), (0, 2), (0, 1), (0, 0)), "hops")
        self.check(ONE, OTHER, fence_of((0, 1), (1, 0)), "")
        self.check(ONE, OTHER, fence_of((0, 2), (0, 0)), "")
        self.check(ONE, OTHER, fence_of((0, 1), (2, 1)), "")
        self.check(ONE, OTHER, fence_of((0, 1), (2, 3)), "")
        self.check(ONE, OTHER, fence_of((1, 3), (0, 1), (0, 0)), "")
        self.check(ONE, OTHER, fence_of((0, 1), ("1/2", 1), (1, 1), (2, 1)), "on free")
        self.check(ONE, OTHER, fence_of((0, "1/2"), (0, 0)), "on free")

    def test_lines_of_one_corner(self):
        point = [(1, 1)]
        self.check(point, point, fence_of((0, 0), (0, 0), (0, 0)), "on part free hops")
        self.check(point, OTHER, fence_of((0, 3), (0, 2), (0, 1), (0, 0)), "on part free hops")
        self.check(point, OTHER, fence_of((0, 3), (0, "5/2"), (0, 2), (0, "4/3"), (0, 1), (0, 0)), "on part free")
        self.check(point, OTHER, fence_of((0, 3), (0, 2), (0, 1)), "on free hops")
        self.check(point, OTHER, fence_of((0, 3), (0, 1), (0, 0)), "")
        self.check(point, OTHER, fence_of((0, 0), (0, 3)), "on hops")
        self.check(point, OTHER, fence_of((0, 0), (0, 1)), "on free hops")
        self.check(ONE, point, fence_of((0, 0), (1, 0), (2, 0)), "on part free hops")
        self.check(ONE, point, fence_of((1, 0), (0, 0), ("1/2", 0)), "on part free")
        self.check(ONE, point, fence_of((0, 0), (2, 0)), "")
        self.check(ONE, point, fence_of((2, 0), (0, 0)), "on part hops")

    def test_alike_corners(self):
        same = [(3, 3), (3, 3), (3, 3)]
        self.check(same, OTHER, fence_of((1, 3), (1, 2), (1, 1), (1, 0)), "on part free hops")
        self.check(same, same, fence_of((0, 1), (1, 1), (2, 1)), "on free hops")
        self.check(same, same, fence_of((0, 1), (2, 1)), "")
        self.check(same, same, fence_of((1, 2), (1, "3/2"), (1, 1), (1, 0)), "on part free")

    def test_all_short_lists_against_the_words(self):
        places = [told(Fraction(k, 2)) for k in range(5)]
        for one, other, longest in (([(0, 0)], [(1, 0), (3, 1), (2, 2)], 4), ([(0, 0), (2, 1)], [(1, 3), (0, 1)], 4),
                                    ([(0, 0), (2, 1), (2, 5)], [(1, 3), (0, 1)], 3),
                                    ([(5, 0), (2, 1), (2, 5)], [(1, 3), (0, 1), (4, 4)], 2)):
            pairs = [(x, y) for x in places[:2 * len(one) - 1] for y in places[:2 * len(other) - 1]]
            for length in range(1, longest + 1):
                for fence in itertools.product(pairs, repeat=length):
                    fence = list(fence)
                    for way in WAYS:
                        right = right_fence(one, other, fence, way)
                        self.assertIs(is_fence(one, other, fence, way), right, (one, other, fence, way))

    def test_fences_astray_against_the_words(self):
        chance = random.Random(17)
        spots = [Fraction(k, 3) for k in range(28)]
        found = {way: [0, 0] for way in WAYS}
        for step in range(1000):
            one, other = chance.choice(LINES), chance.choice(LINES)
            made = WAYS[step % 4]
            fence = chance_fence(chance, one, other, made, spots)
            if chance.random() < 0.3:
                number = chance.randrange(len(fence))
                fence[number] = (chance.choice(places_of(one)), fence[number][1])
            for way in WAYS:
                right = right_fence(one, other, fence, way)
                found[way][right] += 1
                self.assertIs(is_fence(one, other, fence, way), right, (one, other, fence, way))
                if right:
                    square = fence_square(one, other, fence, way)
                    self.assertEqual(square, least_measured(one, other, fence, way), (one, other, fence, way))
        for way in WAYS:
            self.assertGreater(min(found[way]), 100, found)

    def test_two_hundred_pairs(self):
        one, other = LINES[8], LINES[7]
        slow = [pair(k // 22, 4) for k in range(200)]
        self.check(one, other, slow, "on free hops")
        down = [pair(3, Fraction(199 - k, 40)) for k in range(199)]
        down += [pair(3, 0)]
        self.assertEqual(len(down), 200)
        self.check(one, other, down, "")
        down = [pair(3, 5)] + [pair(3, y) for y in sorted({Fraction(k, 38) for k in range(190)} | set(range(5)))][::-1]
        down += [pair(3, 0)] * (200 - len(down))
        self.assertEqual(len(down), 200)
        self.check(one, other, down, "on part free")
        self.check(one, other, down[:90] + down[131:], "")
        self.check(one, other, down[:100] + down[96:196], "on part free")

    def test_numbers_at_the_bounds(self):
        one, other = [(-TOP, -TOP), (TOP, TOP)], [(TOP, TOP), (-TOP, -TOP)]
        self.assertEqual(fence_square(one, other, fence_of((0, 0))), (8 * TOP * TOP, 1))
        fine = Fraction(10 ** 109 - 7, 10 ** 110 - 1)
        self.check(one, other, fence_of((0, fine), (0, 0)), "on free")
        self.check(one, other, fence_of((1, 1), (1, fine), (fine, 1), (1, 1)), "on")


class FenceSquare(Checks):
    def test_some_by_hand(self):
        self.assertEqual(fence_square(ONE, OTHER, fence_of((0, 0))), (9, 1))
        self.assertEqual(fence_square(ONE, OTHER, fence_of((2, 3))), (9, 1))
        self.assertEqual(fence_square(ONE, OTHER, fence_of((0, 2), (1, 2), (2, 2))), (36, 1))
        self.assertEqual(fence_square(ONE, OTHER, fence_of((0, 2), (1, 2), (2, 2)), "hops"), (36, 1))
        self.assertEqual(fence_square(ONE, OTHER, fence_of((1, 3), (1, 2), (1, 1), (1, 0)), "part"), (9, 1))
        self.assertEqual(fence_square(ONE, OTHER, fence_of((2, 3), (2, 2), (2, 1), (2, 0)), "part"), (9, 1))
        self.assertEqual(fence_square([(0, 0)], [(0, 2), (0, 9)], fence_of((0, "1/2"))), (121, 4))

    def test_the_least_wherever_it_stands(self):
        for low in range(4):
            other = [(7 - 5 * (k == low), 0) for k in range(4)]
            for way in WAYS:
                self.assertEqual(fence_square([(0, 0)], other, fence_of((0, 3), (0, 2), (0, 1), (0, 0)), way), (4, 1))
                self.assertEqual(fence_square(other, [(0, 0)], fence_of((0, 0), (1, 0), (2, 0), (3, 0)), way), (4, 1))

    def test_what_lies_between_in_a_step_down(self):
        # Both pairs are 5 away from the corner, the stretch between comes as near as 3.
        one, other = [(0, 0), (0, 0)], [(-4, 3), (4, 3)]
        fence = fence_of((0, 1), (0, 0))
        for way, square in (("on", 9), ("part", 9), ("free", 9), ("hops", 25)):
            self.assertEqual(fence_square(one, other, fence, way), (square, 1))
        # The part that is passed counts, no more of the stretch.
        for end, square in (("3/4", 13), ("1/2", 9), ("1/4", 9)):
            self.assertEqual(fence_square([(9, 9), (0, 0)], other, fence_of((1, 1), (1, end))), (square, 1))

    def test_what_lies_between_in_a_step_over(self):
        one, other = [(-4, 3), (4, 3)], [(0, 0), (0, 0)]
        fence = fence_of((0, 1), (1, 1))
        for way, square in (("on", 9), ("free", 9), ("hops", 25)):
            self.assertEqual(fence_square(one, other, fence, way), (square, 1))
        one, other = [(-4, 3), (4, 3)], [(0, 0)]
        for way, square in (("on", 9), ("part", 9), ("free", 9), ("hops", 25)):
            self.assertEqual(fence_square(one, other, fence_of((0, 0), (1, 0)), way), (square, 1))
        for begin, square in ((0, 9), ("1/4", 9), ("1/2", 9), ("3/4", 13), (1, 25)):
            self.assertEqual(fence_square(one, other, fence_of((begin, 0), (1, 0)), "part"), (square, 1))

    def test_the_least_amid_a_step_with_a_fraction(self):
        one, other = [(0, 0)], [(0, 3), (4, 0)]
        self.assertEqual(fence_square(one, other, fence_of((0, 1), (0, 0))), (144, 25))
        self.assertEqual(fence_square(other, one, fence_of((0, 0), (1, 0))), (144, 25))
        self.assertEqual(fence_square(one, other, fence_of((0, 1), (0, 0)), "hops"), (9, 1))

    def test_nothing_between_is_measured_in_a_step_back(self):
        # The way back leads past a place that is 3 away, and past one that is 0 away.
        one, other = [(0, 0)], [(-4, 3), (4, 3)]
        self.assertEqual(fence_square(one, other, fence_of((0, 0), (0, 1))), (25, 1))
        self.assertEqual(fence_square(one, other, fence_of((0, 0), (0, 1)), "free"), (9, 1))
        self.assertEqual(fence_square(other, one, fence_of((1, 0), (0, 0))), (25, 1))
        self.assertEqual(fence_square(other, one, fence_of((1, 0), (0, 0)), "part"), (25, 1))
        self.assertEqual(fence_square(other, one, fence_of((1, 0), (0, 0)), "free"), (9, 1))
        one, other = [(5, 0)], [(0, 0), (10, 0)]
        self.assertEqual(fence_square(one, other, fence_of((0, 0), (0, 1))), (25, 1))
        self.assertEqual(fence_square(one, other, fence_of((0, 0), (0, 1)), "free"), (0, 1))
        self.assertEqual(fence_square(one, other, fence_of((0, 1), (0, 0))), (0, 1))

    def test_a_way_back_of_both_places_across_a_nought(self):
        one, other = [(-4, 0), (4, 0)], [(0, 20), (0, 4), (0, -4)]
        self.assertEqual(walk_square(one, other, walk_of((0, 0), ("1/2", 1), ("1/2", "3/2"), (1, 2))), (416, 1))
        fence = fence_of((1, 2), (1, 1), (0, 2), (0, 1), (0, 0))
        self.assertEqual(fence_square(one, other, fence), (16, 1))
        self.assertEqual(fence_square(one, other, fence, "part"), (16, 1))
        self.assertEqual(fence_square(one, other, fence, "hops"), (32, 1))
        self.assertIs(is_fence(one, other, fence, "free"), False)

    def test_between_in_free_steps_up_and_down(self):
        one, other = [(0, 0), (0, 0)], [(-4, 3), (4, 3), (-4, 3)]
        for fence in (fence_of((0, 1), (0, 2), (1, 2)), fence_of((0, 2), (0, 1), (0, 0)),
                      fence_of((1, 2), (1, 1), (0, 1), (0, 0)), fence_of((0, "3/5"), (0, 0))):
            self.assertEqual(fence_square(one, other, fence, "free"), (9, 1))
        self.assertEqual(fence_square(one, other, fence_of((0, 1), (0, "3/4"), (0, 1), (1, 1)), "free"), (13, 1))

    def test_twenty_pairs(self):
        chance = random.Random(23)
        for way in WAYS:
            count = 0
            while count < 15:
                one = [(chance.randint(-TOP, TOP), chance.randint(-TOP, TOP)) for corner in range(chance.randint(1, 10))]
                other = [(chance.randint(-TOP, TOP), chance.randint(-TOP, TOP)) for corner in range(chance.randint(1, 10))]
                bottom = chance.randint(10 ** 107, 10 ** 108)
                spots = sorted([Fraction(k) for k in range(10)] +
                               [Fraction(chance.randint(0, 9 * bottom), bottom) for k in range(20)])
                fence = chance_fence(chance, one, other, way, spots, 20)
                if right_fence(one, other, fence, way):
                    count += 1
                    fence = fence + [fence[-1]] * (20 - len(fence))
                    self.assertEqual(len(fence), 20)
                    self.assertIs(is_fence(one, other, fence, way), True)
                    self.assertEqual(fence_square(one, other, fence, way), least_measured(one, other, fence, way))


class Anything(unittest.TestCase):
    def things_no_fence(self):
        right = fence_of((0, 2), (1, 2), (2, 2))
        wrong = list(things_not_whole())
        wrong += [0, 7, [], (), tuple(right), {0: right[0]}, set(right), iter(right), [right], (right,),
                  [list(step) for step in right], right[:-1] + [list(right[-1])], [list(right[0])] + right[1:],
                  right + [()], [()] + right, right[:1] + [((1, 1),)] + right[1:],
                  right[:1] + [((1, 1), (2, 1), (1, 1))] + right[2:], [((0, 1), (0, 1), (0, 1))],
                  [(0, 2), (1, 2), (2, 2)], [((0, 1), [2, 1])] + right[1:], [([0, 1], (2, 1))] + right[1:]]
        for thing in things_not_whole():
            wrong += [[thing], right[:1] + [thing] + right[1:], right + [thing]]
        for thing in things_no_place(ONE):
            wrong += [right[:1] + [(thing, (2, 1))] + right[1:], [(thing, (0, 1))], right[:-1] + [(thing, (2, 1))]]
        for thing in things_no_place(OTHER):
            wrong += [right[:1] + [((1, 1), thing)] + right[1:], [((0, 1), thing)], [((2, 1), thing)] + right[2:]]
        return wrong

    def test_what_is_no_fence(self):
        for thing in self.things_no_fence():
            with self.subTest(thing=repr(thing)):
                for way in WAYS:
                    self.assertIs(is_fence(ONE, OTHER, thing, way), False)
                    with self.assertRaises(NoFence):
                        fence_square(ONE, OTHER, thing, way)
                self.assertIs(is_fence(ONE, OTHER, thing), False)
                with self.assertRaises(NoFence):
                    fence_square(ONE, OTHER, thing)

    def test_a_place_past_the_line_it_is_on(self):
        fence = fence_of((0, 3), (1, 3), (2, 3))
        self.assertIs(is_fence(ONE, OTHER, fence), True)
        for way in WAYS:
            self.assertIs(is_fence(OTHER, ONE, fence, way), False)

    def test_a_way_that_is_none_goes_ahead_of_all_else(self):
        right = fence_of((0, 2), (1, 2), (2, 2))
        for way in things_no_way():
            with self.subTest(way=repr(way)):
                for handed in (right, right[:-1], [], None, 5, "on"):
                    with self.assertRaises(NoWay):
                        is_fence(ONE, OTHER, handed, way)
                    with self.assertRaises(NoWay):
                        fence_square(ONE, OTHER, handed, way)

    def test_the_refusals_stand_under_leash_error(self):
        with self.assertRaises(LeashError):
            fence_square(ONE, OTHER, [])
        with self.assertRaises(LeashError):
            fence_square(ONE, OTHER, [], "away")

    def test_nothing_handed_in_is_changed(self):
        fence = fence_of((0, 2), (1, 2), (2, 2))
        handed = [copy.deepcopy(ONE), copy.deepcopy(OTHER), copy.deepcopy(fence)]
        for way in ("on", "free", "hops"):
            self.assertIs(is_fence(*handed, way), True)
            self.assertEqual(fence_square(*handed, way), (36, 1))
            self.assertEqual(fence_square(*handed, way), (36, 1))
        with self.assertRaises(NoFence):
            fence_square(*handed, "part")
        self.assertEqual(handed, [ONE, OTHER, fence])

    def test_nothing_handed_in_is_kept(self):
        one, other, fence = list(ONE), list(OTHER), fence_of((0, 2), (1, 2), (2, 2))
        self.assertEqual(fence_square(one, other, fence), (36, 1))
        other[2] = (4, 7)
        self.assertEqual(fence_square(one, other, fence), (49, 1))
        fence.pop()
        self.assertIs(is_fence(one, other, fence), False)
        one.pop()
        self.assertIs(is_fence(one, other, fence), True)


class WalksAndFences(unittest.TestCase):
    def test_no_walk_has_a_lesser_square_than_a_fence(self):
        chance = random.Random(29)
        spots = [Fraction(k, 3) for k in range(28)]
        for way in WAYS:
            met = 0
            for step in range(60):
                one = [(chance.randint(-6, 6), chance.randint(-6, 6)) for corner in range(chance.randint(1, 5))]
                other = [(chance.randint(-6, 6), chance.randint(-6, 6)) for corner in range(chance.randint(1, 5))]
                fences = [chance_fence(chance, one, other, way, spots) for turn in range(12)]
                fences = [fence for fence in fences if is_fence(one, other, fence, way)]
                walks = [chance_walk(chance, one, other, way, spots) for turn in range(12)]
                for walk in walks:
                    self.assertIs(is_walk(one, other, walk, way), True, (one, other, walk, way))
                if fences:
                    highest = max(fraction(fence_square(one, other, fence, way)) for fence in fences)
                    lowest = min(fraction(walk_square(one, other, walk, way)) for walk in walks)
                    self.assertLessEqual(highest, lowest, (one, other, way))
                    met += highest == lowest
            self.assertGreater(met, 5, way)

    def test_an_even_walk_of_far_lines_and_each_fence(self):
        chance = random.Random(31)
        spots = [Fraction(k, 2) for k in range(19)]
        for one, other in itertools.product(LINES, repeat=2):
            walk = even_walk(one, other, 12) if len(one) > 1 and len(other) > 1 else None
            for way in ("on", "part", "free"):
                fence = chance_fence(chance, one, other, way, spots)
                if walk and is_fence(one, other, fence, way):
                    least = fraction(fence_square(one, other, fence, way))
                    self.assertLessEqual(least, fraction(walk_square(one, other, walk, way)))


class SameSquares(unittest.TestCase):
    def test_both_lines_exchanged_or_both_turned_about(self):
        chance = random.Random(37)
        spots = [Fraction(k, 3) for k in range(28)]
        count = {way: 0 for way in WAYS}
        for step in range(600):
            one, other = chance.choice(LINES), chance.choice(LINES)
            way = WAYS[step % 4]
            fence = chance_fence(chance, one, other, way, spots)
            if not right_fence(one, other, fence, way):
                continue
            count[way] += 1
            square = fence_square(one, other, fence, way)
            back = [pair(len(one) - 1 - fraction(x), len(other) - 1 - fraction(y)) for x, y in fence[::-1]]
            self.assertEqual(fence_square(one[::-1], other[::-1], back, way), square)
            if way != "part":
                self.assertEqual(fence_square(other, one, [(y, x) for x, y in fence[::-1]], way), square)
        self.assertGreater(min(count.values()), 50, count)

    def test_a_corner_doubled(self):
        fence = fence_of((0, 2), (1, 2), (2, 2))
        for corner in range(3):
            doubled = ONE[:corner + 1] + ONE[corner:]
            moved = fence_of((0, 2), (1, 2), (2, 2), (3, 2))
            for way in ("on", "free", "hops"):
                self.assertEqual(fence_square(doubled, OTHER, moved, way), fence_square(ONE, OTHER, fence, way))

    def test_a_corner_put_in_on_a_stretch(self):
        split = [(0, 0), (1, 0), (4, 0), (8, 0)]
        for way in ("on", "free"):
            self.assertEqual(fence_square(split, OTHER, fence_of((0, 2), (1, 2), (2, 2), (3, 2)), way),
                             fence_square(ONE, OTHER, fence_of((0, 2), ("1/4", 2), (1, 2), (2, 2)), way))


if __name__ == "__main__":
    unittest.main()
