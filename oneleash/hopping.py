"""Going on a leash by the way "hops"."""

from oneleash.fences import hops_aside
from oneleash.fields import begins_fence, ends_fence, far_corners, pair_at_corner
from oneleash.gates import look_at_square
from oneleash.lines import last_of
from oneleash.seeking import seek


def steps_on(far, last, corner):
    # Steps are tuples of a corner and None, as there is but one way to come there.
    i = corner[0]
    j = corner[1]
    steps = []
    for found in [(i + 1, j + 1), (i + 1, j), (i, j + 1)]:
        if found[0] <= last[0] and found[1] <= last[1] and found not in far:
            steps.append((found, None))
    return steps


def hops_walk(far, last):
    # A walk, or None where there is none.
    if (0, 0) in far:
        return None
    row = seek([(0, 0)], lambda corner: steps_on(far, last, corner), lambda spot: spot == last)
    if row is None:
        return None
    return [pair_at_corner(step[0]) for step in row]


def steps_aside(far, corner):
    begin = pair_at_corner(corner)
    return [(found, None) for found in far if hops_aside(begin, pair_at_corner(found))]


def hops_fence(far, last):
    # Of corners without a walk: there a fence is.
    begins = [corner for corner in far if begins_fence(corner, last, "hops")]
    row = seek(begins, lambda corner: steps_aside(far, corner), lambda spot: ends_fence(spot, last, "hops"))
    return [pair_at_corner(step[0]) for step in row]


def go_hops(one, other, square):
    look_at_square(square)
    last = (last_of(one), last_of(other))
    far = far_corners(one, other, square, 0)
    walk = hops_walk(far, last)
    if walk is not None:
        return ("walk", walk)
    return ("fence", hops_fence(far, last))


def fence_hops(one, other, square):
    # A fence of no lesser square than that, where no walk has a lesser one.
    return hops_fence(far_corners(one, other, square, 1), (last_of(one), last_of(other)))
