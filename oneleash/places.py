"""Places on lines, their points, and the squares of the distances between them."""

from oneleash.errors import NoPlace
from oneleash.lines import last_of
from oneleash.ratios import floor_of, is_ratio, less, minus, over, plus, ratio, times


def is_place(line, thing):
    return is_ratio(thing) and 0 <= thing[0] <= last_of(line) * thing[1]


def look_at_place(line, thing):
    if not is_place(line, thing):
        raise NoPlace()


def is_pair(one, other, thing):
    if not isinstance(thing, tuple) or len(thing) != 2:
        return False
    return is_place(one, thing[0]) and is_place(other, thing[1])


def are_pairs(one, other, thing):
    if not isinstance(thing, list) or len(thing) == 0:
        return False
    return all([is_pair(one, other, pair) for pair in thing])


def number_at(begin, end, place):
    # From the number begin to the number end, as far as the place is behind the corner ahead of it.
    rest = place[0] % place[1]
    return ratio(begin * place[1] + (end - begin) * rest, place[1])


def point_at(line, place):
    look_at_place(line, place)
    corner = floor_of(place)
    begin = line[corner]
    # No stretch begins at the last corner.
    end = line[min(corner + 1, last_of(line))]
    return (number_at(begin[0], end[0], place), number_at(begin[1], end[1], place))


def share_a_stretch(one, other):
    low = one
    high = other
    if less(other, one):
        low = other
        high = one
    return not less(ratio(floor_of(low) + 1), high)


def in_one_stretch(line, one, other):
    look_at_place(line, one)
    look_at_place(line, other)
    return share_a_stretch(one, other)


def step_from(begin, end):
    return (minus(end[0], begin[0]), minus(end[1], begin[1]))


def inner_product(one, other):
    return plus(times(one[0], other[0]), times(one[1], other[1]))


def square_between(begin, end):
    step = step_from(begin, end)
    return inner_product(step, step)


def square_of(one, x, other, y):
    return square_between(point_at(one, x), point_at(other, y))


def nearest_part(point, begin, end):
    # The lowest t from 0 to 1 at which the way from begin to end is nearest to the point.
    if begin == end:
        return (0, 1)
    step = step_from(begin, end)
    part = over(inner_product(step_from(begin, point), step), inner_product(step, step))
    if less(part, (0, 1)):
        return (0, 1)
    if less((1, 1), part):
        return (1, 1)
    return part


def least_along(one, x, other, low, high):
    point = point_at(one, x)
    part = nearest_part(point, point_at(other, low), point_at(other, high))
    place = plus(low, times(part, minus(high, low)))
    return (square_between(point, point_at(other, place)), place)
