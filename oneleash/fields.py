"""The field of two lines and a leash: a row of cells for each stretch, with doors between them.

The cell (i, j) is the stretch i of the one line against the stretch j of the other. The door (UPRIGHT, i, j) is the
corner i of the one line against the stretch j of the other, on the left of that cell; the door (LEVEL, i, j) is the
stretch i of the one line against the corner j of the other, below it. A corner of the field is a pair (i, j) of
corners' numbers.

With room 0 what is just a leash away is within the leash, with room 1 it is beyond.
"""

from oneleash.gates import BEGIN, END, leash_order, part_within
from oneleash.lines import last_of
from oneleash.ratios import plus
from oneleash.roots import root_between, root_order

UPRIGHT = 0
LEVEL = 1


def with_a_stretch(line):
    # A line of one corner has no stretch; with its corner doubled the same walks are there.
    return line + line if len(line) == 1 else line


def doors_of(one, other, square, room):
    # Each door with the part of it within the leash, or None.
    doors = {}
    for i, corner in enumerate(one):
        for j in range(last_of(other)):
            doors[(UPRIGHT, i, j)] = part_within(corner, other[j], other[j + 1], square, room)
    for j, corner in enumerate(other):
        for i in range(last_of(one)):
            doors[(LEVEL, i, j)] = part_within(corner, one[i], one[i + 1], square, room)
    return doors


def far_corners(one, other, square, room):
    # Those beyond the leash.
    far = {}
    for i, corner in enumerate(one):
        for j, beside in enumerate(other):
            if leash_order(corner, beside, square) < room:
                far[(i, j)] = True
    return far


class Field:
    def __init__(self, one, other, square, room):
        first = with_a_stretch(one)
        second = with_a_stretch(other)
        self.room = room
        self.last = (last_of(first), last_of(second))
        self.doors = doors_of(first, second, square, room)
        self.far = far_corners(first, second, square, room)


def begins_fence(corner, last, way):
    return corner[1] == last[1] or (way != "part" and corner[0] == 0)


def ends_fence(corner, last, way):
    return corner[1] == 0 or (way != "part" and corner[0] == last[0])


def pair_at_corner(corner):
    return ((corner[0], 1), (corner[1], 1))


def part_from(low, high):
    # The ends of a stretch have the fewest figures, so they go ahead of what lies between.
    if root_order(low, BEGIN) == 0:
        return (0, 1)
    if root_order(high, END) == 0:
        return (1, 1)
    return root_between(low, high)


def pair_in_door(door, part):
    if door[0] == UPRIGHT:
        return ((door[1], 1), plus((door[2], 1), part))
    return (plus((door[1], 1), part), (door[2], 1))


def place_on(line, place):
    # The way back from with_a_stretch.
    return (0, 1) if len(line) == 1 else place


def pairs_on(one, other, pairs):
    return [(place_on(one, pair[0]), place_on(other, pair[1])) for pair in pairs]
