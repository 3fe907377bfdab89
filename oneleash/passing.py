"""Walks of the ways "on" and "part", sought from door to door through the field."""

from oneleash.fields import LEVEL, UPRIGHT, pair_at_corner, pair_in_door, part_from
from oneleash.gates import BEGIN
from oneleash.roots import root_order


def doors_at_begin(field, way):
    # What is reached is kept by its door: (low, high, the door ahead).
    reached = {}
    if way == "on":
        if (0, 0) not in field.far:
            reached[(UPRIGHT, 0, 0)] = (BEGIN, BEGIN, None)
        return reached
    for j in range(field.last[1]):
        part = field.doors[(UPRIGHT, 0, j)]
        if part is not None:
            reached[(UPRIGHT, 0, j)] = (part[0], part[1], None)
    return reached


def door_out(side, i, j):
    return (UPRIGHT, i + 1, j) if side == UPRIGHT else (LEVEL, i, j + 1)


def pass_through(field, reached, door, straight, turned):
    part = field.doors[door]
    if part is None:
        return
    if turned in reached:
        # Within a cell all places can be gone to that lie neither lower nor more to the left.
        reached[door] = (part[0], part[1], turned)
        return
    if straight in reached:
        low = part[0]
        if root_order(low, reached[straight][0]) < 0:
            low = reached[straight][0]
        if root_order(low, part[1]) <= 0:
            reached[door] = (low, part[1], straight)


def doors_reached(field, way):
    reached = doors_at_begin(field, way)
    for i in range(field.last[0]):
        for j in range(field.last[1]):
            for side in (UPRIGHT, LEVEL):
                pass_through(field, reached, door_out(side, i, j), (side, i, j), (1 - side, i, j))
    return reached


def doors_at_end(last, way):
    if way == "on":
        return [(UPRIGHT, last[0] - 1, last[1] - 1), (LEVEL, last[0] - 1, last[1] - 1)]
    return [(UPRIGHT, last[0], j) for j in range(last[1])]


def may_keep(part, high):
    return root_order((part[0], 0, 0, part[1]), high) <= 0


def pairs_to(reached, door):
    # From the end to the begin: a place stands as it stood in the door behind, where it fits, as what is reached there
    # begins no lower than here.
    pairs = []
    behind = None
    part = None
    while door is not None:
        low = reached[door][0]
        high = reached[door][1]
        if behind is None or behind[0] != door[0] or not may_keep(part, high):
            part = part_from(low, high)
        pairs.append(pair_in_door(door, part))
        behind = door
        door = reached[door][2]
    pairs.reverse()
    return pairs


def walk_through(field, way):
    # A walk, or None where there is none.
    if way == "on" and field.last in field.far:
        return None
    reached = doors_reached(field, way)
    ends = [door for door in doors_at_end(field.last, way) if door in reached]
    if len(ends) == 0:
        return None
    walk = pairs_to(reached, ends[0])
    if way == "on":
        walk.append(pair_at_corner(field.last))
    return walk
