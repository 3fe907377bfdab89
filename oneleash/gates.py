"""Gates: the part of a stretch that a leash lets one reach from a corner beside it."""

from oneleash.errors import NoSquare
from oneleash.ratios import is_ratio
from oneleash.roots import root_order, sign_of

BEGIN = (0, 0, 0, 1)
END = (1, 0, 0, 1)


def look_at_square(square):
    if not is_ratio(square) or square[0] < 0:
        raise NoSquare()


def leash_order(one, other, square):
    # 1 where the leash is longer than the way from the one corner to the other, 0 where it is as long, else -1.
    across = other[0] - one[0]
    up = other[1] - one[1]
    return sign_of(square[0] - (across * across + up * up) * square[1])


def reach_of(corner, begin, end, square):
    # Of the straight line through begin and end, without ends: (p, r, s), the leash is just (p + or - root of r) / s
    # away from begin; r is below 0 where the leash is too short.
    across = end[0] - begin[0]
    up = end[1] - begin[1]
    away_across = corner[0] - begin[0]
    away_up = corner[1] - begin[1]
    length = across * across + up * up
    along = away_across * across + away_up * up
    beside = away_across * up - away_up * across
    under = square[1] * (square[0] * length - square[1] * beside * beside)
    return (along * square[1], under, length * square[1])


def part_within(corner, begin, end, square, room):
    # Each order is to be at least room: with 0 places just a leash away count, with 1 they don't.
    if begin == end:
        return (BEGIN, END) if leash_order(corner, begin, square) >= room else None
    reach = reach_of(corner, begin, end, square)
    if sign_of(reach[1]) < room:
        return None
    low = (reach[0], -1, reach[1], reach[2])
    high = (reach[0], 1, reach[1], reach[2])
    if root_order(END, low) < room or root_order(high, BEGIN) < room:
        return None
    if root_order(low, BEGIN) < 0:
        low = BEGIN
    if root_order(high, END) > 0:
        high = END
    return (low, high)


def gate(corner, begin, end, square):
    look_at_square(square)
    return part_within(corner, begin, end, square, 0)


def open_gate(corner, begin, end, square):
    look_at_square(square)
    return part_within(corner, begin, end, square, 1)
