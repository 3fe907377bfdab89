"""Fences of two lines, of each of the four ways."""

from oneleash.errors import NoFence
from oneleash.lines import last_of
from oneleash.places import are_pairs, least_along, share_a_stretch, square_of
from oneleash.ratios import less, number_of_least
from oneleash.ways import look_at_way


def has_right_ends(one, other, fence, way):
    first = fence[0]
    last = fence[-1]
    begins_on_top = first[1] == (last_of(other), 1)
    ends_on_ground = last[1] == (0, 1)
    if way == "part":
        return begins_on_top and ends_on_ground
    return (begins_on_top or first[0] == (0, 1)) and (ends_on_ground or last[0] == (last_of(one), 1))


def steps_back(begin, end):
    return not less(begin[0], end[0]) and not less(end[1], begin[1])


def keeps_corner(begin, end, number):
    # The place of that number stays at a corner, the other place stays within a stretch.
    kept = begin[number]
    return kept == end[number] and kept[1] == 1 and share_a_stretch(begin[1 - number], end[1 - number])


def slides(begin, end):
    return keeps_corner(begin, end, 0) or keeps_corner(begin, end, 1)


def has_whole_places(pair):
    return pair[0][1] == 1 and pair[1][1] == 1


def hops_aside(begin, end):
    # Of whole places; how far the one place rises and how far the other one falls.
    rise = end[0][0] - begin[0][0]
    fall = begin[1][0] - end[1][0]
    return (rise <= 0 and fall <= 1) or (rise <= 1 and fall <= 0)


def may_step(begin, end, way):
    if way == "hops":
        return hops_aside(begin, end)
    if way == "free":
        return slides(begin, end)
    # Down and over are the slides that are not back.
    return steps_back(begin, end) or slides(begin, end)


def has_right_steps(fence, way):
    return all([may_step(begin, end, way) for begin, end in zip(fence, fence[1:])])


def is_fence(one, other, thing, way="on"):
    look_at_way(way)
    if not are_pairs(one, other, thing):
        return False
    if way == "hops" and not all([has_whole_places(pair) for pair in thing]):
        return False
    return has_right_ends(one, other, thing, way) and has_right_steps(thing, way)


def is_measured_between(begin, end, way):
    if way == "hops":
        return False
    return way == "free" or not steps_back(begin, end)


def least_between(corner_line, corner, line, begin, end):
    low = begin
    high = end
    if less(end, begin):
        low = end
        high = begin
    return least_along(corner_line, corner, line, low, high)[0]


def slide_square(one, other, begin, end):
    if keeps_corner(begin, end, 0):
        return least_between(one, begin[0], other, begin[1], end[1])
    return least_between(other, begin[1], one, begin[0], end[0])


def measured_squares(one, other, fence, way):
    squares = [square_of(one, pair[0], other, pair[1]) for pair in fence]
    for begin, end in zip(fence, fence[1:]):
        if is_measured_between(begin, end, way):
            squares.append(slide_square(one, other, begin, end))
    return squares


def fence_square(one, other, fence, way="on"):
    if not is_fence(one, other, fence, way):
        raise NoFence()
    squares = measured_squares(one, other, fence, way)
    return squares[number_of_least(squares)]
