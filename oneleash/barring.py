"""Fences of the ways "on" and "part", sought from far corner to far corner of the field.

A corner is far where it is beyond the leash. Each part of a door that is beyond the leash ends at a far corner, and no
fence gets farther than those that go by far corners alone, straight along a door, back, or by a bend: down along one
door to a gap, back to another door of the same row, and on down along it; or over likewise, in a column.
"""

from oneleash.fields import LEVEL, UPRIGHT, pair_at_corner, pair_in_door
from oneleash.roots import root_between, root_order


def begins_fence(corner, last, way):
    return corner[1] == last[1] or (way == "on" and corner[0] == 0)


def ends_fence(corner, last, way):
    return corner[1] == 0 or (way == "on" and corner[0] == last[0])


def gap_between(doors, low_door, high_door):
    # Both are beyond the leash where the part within it of the one door ends before that of the other begins.
    if doors[low_door] is None or doors[high_door] is None:
        return None
    gap = (doors[low_door][1], doors[high_door][0])
    return gap if root_order(gap[0], gap[1]) < 0 else None


def straight_step(corner):
    # Steps are tuples: the corner one comes to, the doors of the bend, the gap in them.
    return (corner, (), None)


def steps_down(doors, corner):
    i = corner[0]
    j = corner[1] - 1
    if j < 0:
        return []
    door = (UPRIGHT, i, j)
    if doors[door] is None:
        return [straight_step((i, j))]
    steps = []
    for k in range(i):
        beside = (UPRIGHT, k, j)
        gap = gap_between(doors, door, beside)
        if gap is not None:
            steps.append(((k, j), (door, beside), gap))
    return steps


def steps_over(doors, corner, last):
    i = corner[0]
    j = corner[1]
    if i == last[0]:
        return []
    door = (LEVEL, i, j)
    if doors[door] is None:
        return [straight_step((i + 1, j))]
    steps = []
    for k in range(j + 1, last[1] + 1):
        above = (LEVEL, i, k)
        gap = gap_between(doors, above, door)
        if gap is not None:
            steps.append(((i + 1, k), (door, above), gap))
    return steps


def steps_back(far, corner):
    return [straight_step(found) for found in far if found[0] <= corner[0] and found[1] >= corner[1]]


def steps_from(doors, far, last, corner):
    return steps_down(doors, corner) + steps_over(doors, corner, last) + steps_back(far, corner)


def pairs_of_bend(doors, gap):
    if gap is None:
        return []
    part = root_between(gap[0], gap[1])
    return [pair_in_door(door, part) for door in doors]


def pairs_to(came, corner):
    # From the end to the begin, as each corner knows but the one that it was come to from.
    pairs = []
    while corner is not None:
        pairs.append(pair_at_corner(corner))
        ahead = came[corner]
        bend = pairs_of_bend(ahead[1], ahead[2])
        bend.reverse()
        pairs.extend(bend)
        corner = ahead[0]
    pairs.reverse()
    return pairs


def fence_past(doors, far, last, way):
    # Of a field without a walk: there a fence is, so the row of corners doesn't run out ahead of one that ends it.
    row = [corner for corner in far if begins_fence(corner, last, way)]
    came = {}
    for corner in row:
        came[corner] = (None, (), None)
    number = 0
    while not ends_fence(row[number], last, way):
        for step in steps_from(doors, far, last, row[number]):
            if step[0] not in came:
                came[step[0]] = (row[number], step[1], step[2])
                row.append(step[0])
        number += 1
    return pairs_to(came, row[number])
