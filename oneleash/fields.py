"""The field of two lines and a leash: a row of cells for each stretch, with doors between them.

The cell (i, j) is the stretch i of the one line against the stretch j of the other. The door (UPRIGHT, i, j) is the
corner i of the one line against the stretch j of the other, on the left of that cell; the door (LEVEL, i, j) is the
stretch i of the one line against the corner j of the other, below it. A corner of the field is a pair (i, j) of
corners' numbers.
"""

from oneleash.gates import gate, leash_order
from oneleash.lines import last_of
from oneleash.ratios import plus

UPRIGHT = 0
LEVEL = 1


def with_a_stretch(line):
    # A line of one corner has no stretch; with its corner doubled the same walks are there.
    return line + line if len(line) == 1 else line


def doors_of(one, other, square):
    # Each door with the part of it within the leash, or None.
    doors = {}
    for i, corner in enumerate(one):
        for j in range(last_of(other)):
            doors[(UPRIGHT, i, j)] = gate(corner, other[j], other[j + 1], square)
    for j, corner in enumerate(other):
        for i in range(last_of(one)):
            doors[(LEVEL, i, j)] = gate(corner, one[i], one[i + 1], square)
    return doors


def far_corners(one, other, square):
    far = {}
    for i, corner in enumerate(one):
        for j, beside in enumerate(other):
            if leash_order(corner, beside, square) < 0:
                far[(i, j)] = True
    return far


def pair_at_corner(corner):
    return ((corner[0], 1), (corner[1], 1))


def pair_in_door(door, part):
    if door[0] == UPRIGHT:
        return ((door[1], 1), plus((door[2], 1), part))
    return (plus((door[1], 1), part), (door[2], 1))


def place_on(line, place):
    # The way back from with_a_stretch.
    return (0, 1) if len(line) == 1 else place


def pairs_on(one, other, pairs):
    return [(place_on(one, pair[0]), place_on(other, pair[1])) for pair in pairs]
