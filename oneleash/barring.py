"""Fences of the ways "on" and "part", sought from far corner to far corner of the field.

A corner is far where it is beyond the leash. Each part of a door that is beyond the leash ends at a far corner, and no
fence gets farther than those that go by far corners alone, straight along a door, back, or by a bend: down along one
door to a gap, back to another door of the same row, and on down along it; or over likewise, in a column.
"""

from oneleash.fields import LEVEL, UPRIGHT, begins_fence, ends_fence, pair_at_corner, pair_in_door
from oneleash.roots import root_between, root_order
from oneleash.seeking import seek


def gap_between(field, low_door, high_door):
    # Both are beyond the leash where the part within it of the one door ends before that of the other begins; with
    # room 1 also where it ends just there.
    low = field.doors[low_door]
    high = field.doors[high_door]
    if low is None or high is None or root_order(low[1], high[0]) >= field.room:
        return None
    return (low[1], high[0])


def steps_down(field, corner):
    # Steps are tuples: the corner one comes to, and the bend, None or the first door, the second one, and the gap.
    i = corner[0]
    j = corner[1] - 1
    if j < 0:
        return []
    door = (UPRIGHT, i, j)
    if field.doors[door] is None:
        return [((i, j), None)]
    steps = []
    for k in range(i):
        beside = (UPRIGHT, k, j)
        gap = gap_between(field, door, beside)
        if gap is not None:
            steps.append(((k, j), (door, beside, gap)))
    return steps


def steps_over(field, corner):
    i = corner[0]
    j = corner[1]
    if i == field.last[0]:
        return []
    door = (LEVEL, i, j)
    if field.doors[door] is None:
        return [((i + 1, j), None)]
    steps = []
    for k in range(j + 1, field.last[1] + 1):
        above = (LEVEL, i, k)
        gap = gap_between(field, above, door)
        if gap is not None:
            steps.append(((i + 1, k), (door, above, gap)))
    return steps


def steps_back(field, corner):
    return [(found, None) for found in field.far if found[0] <= corner[0] and found[1] >= corner[1]]


def steps_from(field, corner):
    return steps_down(field, corner) + steps_over(field, corner) + steps_back(field, corner)


def pairs_of_bend(bend):
    if bend is None:
        return []
    gap = bend[2]
    part = root_between(gap[0], gap[1])
    return [pair_in_door(bend[0], part), pair_in_door(bend[1], part)]


def fence_past(field, way):
    # Of a field without a walk: there a fence is.
    begins = [corner for corner in field.far if begins_fence(corner, field.last, way)]
    row = seek(begins, lambda corner: steps_from(field, corner), lambda spot: ends_fence(spot, field.last, way))
    pairs = []
    for corner, bend in row:
        pairs.extend(pairs_of_bend(bend))
        pairs.append(pair_at_corner(corner))
    return pairs
