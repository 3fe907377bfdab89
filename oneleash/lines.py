"""Lines: lists of one to ten corners, tuples (x, y) of whole numbers of at most twelve figures."""

from oneleash.errors import NoLine
from oneleash.ratios import is_whole

MOST_CORNERS = 10
LARGEST = 999999999999


def is_small(thing):
    return is_whole(thing) and -LARGEST <= thing <= LARGEST


def is_corner(thing):
    return isinstance(thing, tuple) and len(thing) == 2 and is_small(thing[0]) and is_small(thing[1])


def is_line(thing):
    if not isinstance(thing, list) or not 1 <= len(thing) <= MOST_CORNERS:
        return False
    return all([is_corner(corner) for corner in thing])


def line_of(thing):
    if not is_line(thing):
        raise NoLine()
    return [(corner[0], corner[1]) for corner in thing]


def last_of(line):
    return len(line) - 1
