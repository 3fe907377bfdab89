"""Going on a leash by the ways "on" and "part"."""

from oneleash.barring import fence_past
from oneleash.fields import doors_of, far_corners, pairs_on, with_a_stretch
from oneleash.gates import look_at_square
from oneleash.lines import last_of
from oneleash.passing import walk_through


def go_by(one, other, square, way):
    look_at_square(square)
    first = with_a_stretch(one)
    second = with_a_stretch(other)
    last = (last_of(first), last_of(second))
    doors = doors_of(first, second, square)
    far = far_corners(first, second, square)
    walk = walk_through(doors, far, last, way)
    if walk is not None:
        return ("walk", pairs_on(one, other, walk))
    return ("fence", pairs_on(one, other, fence_past(doors, far, last, way)))


def go_on(one, other, square):
    return go_by(one, other, square, "on")


def go_part(one, other, square):
    return go_by(one, other, square, "part")
