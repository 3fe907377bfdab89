"""Walks of two lines, of each of the four ways."""

from oneleash.errors import NoWalk
from oneleash.lines import last_of
from oneleash.places import are_pairs, share_a_stretch, square_of
from oneleash.ratios import less, number_of_greatest
from oneleash.ways import look_at_way


def has_right_ends(one, other, walk, way):
    first = walk[0]
    last = walk[-1]
    if first[0] != (0, 1) or last[0] != (last_of(one), 1):
        return False
    if way == "part":
        return True
    return first[1] == (0, 1) and last[1] == (last_of(other), 1)


def goes_on(begin, end):
    return not less(end, begin) and share_a_stretch(begin, end)


def goes_freely(begin, end):
    return share_a_stretch(begin, end)


def hops(begin, end):
    return begin[1] == 1 and end[1] == 1 and end[0] - begin[0] in (0, 1)


def may_step(begin, end, way):
    if way == "hops":
        return hops(begin, end)
    if way == "free":
        return goes_freely(begin, end)
    return goes_on(begin, end)


def has_right_steps(walk, way):
    for begin, end in zip(walk, walk[1:]):
        if not may_step(begin[0], end[0], way) or not may_step(begin[1], end[1], way):
            return False
    return True


def is_walk(one, other, thing, way="on"):
    look_at_way(way)
    if not are_pairs(one, other, thing):
        return False
    return has_right_ends(one, other, thing, way) and has_right_steps(thing, way)


def walk_square(one, other, walk, way="on"):
    if not is_walk(one, other, walk, way):
        raise NoWalk()
    squares = [square_of(one, pair[0], other, pair[1]) for pair in walk]
    return squares[number_of_greatest(squares)]
