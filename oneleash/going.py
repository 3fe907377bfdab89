"""Going on a leash by the ways "on" and "part"."""

from oneleash.barring import fence_past
from oneleash.fields import Field, pairs_on
from oneleash.gates import look_at_square
from oneleash.passing import walk_through


def go_by(one, other, square, way):
    look_at_square(square)
    field = Field(one, other, square, 0)
    walk = walk_through(field, way)
    if walk is not None:
        return ("walk", pairs_on(one, other, walk))
    return ("fence", pairs_on(one, other, fence_past(field, way)))


def go_on(one, other, square):
    return go_by(one, other, square, "on")


def go_part(one, other, square):
    return go_by(one, other, square, "part")


def fence_by(one, other, square, way):
    # A fence of no lesser square than that, where no walk has a lesser one.
    return pairs_on(one, other, fence_past(Field(one, other, square, 1), way))
