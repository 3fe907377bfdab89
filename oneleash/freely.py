"""Going on a leash by the way "free".

Within a cell of the field what is within the leash hangs together, so a walk is a row of cells with open doors between
them; and where there is no such row, a row of shut doors parts the first cell from the last one.
"""

from oneleash.fields import LEVEL, UPRIGHT, Field, begins_fence, ends_fence
from oneleash.fields import pair_at_corner, pair_in_door, pairs_on, part_from
from oneleash.gates import look_at_square
from oneleash.seeking import seek


def is_cell(field, cell):
    return 0 <= cell[0] < field.last[0] and 0 <= cell[1] < field.last[1]


def steps_through(field, cell):
    # Steps are tuples: the cell beside this one, and the open door between them.
    i = cell[0]
    j = cell[1]
    steps = [((i - 1, j), (UPRIGHT, i, j)), ((i, j - 1), (LEVEL, i, j))]
    steps += [((i + 1, j), (UPRIGHT, i + 1, j)), ((i, j + 1), (LEVEL, i, j + 1))]
    return [step for step in steps if is_cell(field, step[0]) and field.doors[step[1]] is not None]


def pair_within(field, door):
    part = field.doors[door]
    return pair_in_door(door, part_from(part[0], part[1]))


def free_walk(field):
    # A walk, or None where there is none.
    end = (field.last[0] - 1, field.last[1] - 1)
    if (0, 0) in field.far or field.last in field.far:
        return None
    row = seek([(0, 0)], lambda cell: steps_through(field, cell), lambda spot: spot == end)
    if row is None:
        return None
    walk = [pair_at_corner((0, 0))]
    for step in row[1:]:
        walk.append(pair_within(field, step[1]))
    walk.append(pair_at_corner(field.last))
    return walk


def steps_along(field, corner):
    # Steps are tuples: the corner one comes to, and the shut door along which one comes there.
    i = corner[0]
    j = corner[1]
    steps = [((i, j - 1), (UPRIGHT, i, j - 1)), ((i - 1, j), (LEVEL, i - 1, j))]
    steps += [((i, j + 1), (UPRIGHT, i, j)), ((i + 1, j), (LEVEL, i, j))]
    return [step for step in steps if step[1] in field.doors and field.doors[step[1]] is None]


def free_fence(field):
    # Of a field without a walk: there a fence is.
    begins = [corner for corner in field.far if begins_fence(corner, field.last, "free")]
    row = seek(begins, lambda corner: steps_along(field, corner), lambda spot: ends_fence(spot, field.last, "free"))
    return [pair_at_corner(step[0]) for step in row]


def go_free(one, other, square):
    look_at_square(square)
    field = Field(one, other, square, 0)
    walk = free_walk(field)
    if walk is not None:
        return ("walk", pairs_on(one, other, walk))
    return ("fence", pairs_on(one, other, free_fence(field)))


def fence_freely(one, other, square):
    # A fence of no lesser square than that, where no walk has a lesser one.
    return pairs_on(one, other, free_fence(Field(one, other, square, 1)))
