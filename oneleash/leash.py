"""The shortest leash of two lines, and the squares that it can have."""

from oneleash.freely import fence_freely, go_free
from oneleash.going import fence_by, go_on, go_part
from oneleash.hopping import fence_hops, go_hops
from oneleash.places import least_along, square_of
from oneleash.ratios import less, ratio
from oneleash.ways import look_at_way


def first_number(count, holds):
    # The least number from 0 on of which it holds, where it then holds of all greater ones; count where it holds of no
    # lesser one.
    low = 0
    high = count
    while low < high:
        number = (low + high) // 2
        if holds(number):
            high = number
        else:
            low = number + 1
    return low


def put_in(rising, square):
    number = first_number(len(rising), lambda k: not less(rising[k], square))
    if number == len(rising) or rising[number] != square:
        rising.insert(number, square)


def square_apart(corner, beside):
    return square_of([corner], (0, 1), [beside], (0, 1))


def least_beside(corner, stretch):
    return least_along([corner], (0, 1), stretch, (0, 1), (1, 1))[0]


def even_squares(corner, mate, stretch):
    # The square at the one place of the stretch that is as far from the corner as from its mate: a list of it, or an
    # empty one. Along the stretch the difference of both squares rises or falls evenly, or stays.
    begin = stretch[0]
    end = stretch[1]
    slope = (end[0] - begin[0]) * (mate[0] - corner[0]) + (end[1] - begin[1]) * (mate[1] - corner[1])
    if slope == 0:
        return []
    off = square_apart(begin, mate)[0] - square_apart(begin, corner)[0]
    part = ratio(off, 2 * slope)
    if less(part, (0, 1)) or less((1, 1), part):
        return []
    return [square_of([corner], (0, 1), stretch, part)]


def squares_beside(corners, stretch):
    squares = []
    for number, corner in enumerate(corners):
        squares.append(least_beside(corner, stretch))
        for mate in corners[:number]:
            squares.extend(even_squares(corner, mate, stretch))
    return squares


def stretches_of(line):
    return [[begin, end] for begin, end in zip(line, line[1:])]


def candidates(one, other):
    squares = []
    for corner in one:
        squares.extend([square_apart(corner, beside) for beside in other])
    for stretch in stretches_of(other):
        squares.extend(squares_beside(one, stretch))
    for stretch in stretches_of(one):
        squares.extend(squares_beside(other, stretch))
    rising = []
    for square in squares:
        put_in(rising, square)
    return rising


def go(one, other, square, way="on"):
    look_at_way(way)
    if way == "part":
        return go_part(one, other, square)
    if way == "free":
        return go_free(one, other, square)
    if way == "hops":
        return go_hops(one, other, square)
    return go_on(one, other, square)


def fence_at(one, other, square, way):
    # Of the shortest leash's square.
    if way == "free":
        return fence_freely(one, other, square)
    if way == "hops":
        return fence_hops(one, other, square)
    return fence_by(one, other, square, way)


def leash(one, other, way="on"):
    look_at_way(way)
    rising = candidates(one, other)
    number = first_number(len(rising), lambda k: go(one, other, rising[k], way)[0] == "walk")
    square = rising[number]
    return (square, go(one, other, square, way)[1], fence_at(one, other, square, way))
