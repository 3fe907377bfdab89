"""Judging a paper's text for two lines' texts."""

from oneleash.fences import fence_square
from oneleash.texts import read_line, read_paper, show_ratio
from oneleash.walks import walk_square


def judged(one, other, paper):
    first = read_line(one)
    second = read_line(other)
    read = read_paper(paper)
    way = read[1]
    pairs = read[2]
    if read[0] == "fence":
        bound = show_ratio(fence_square(first, second, pairs, way))
        return f"no shorter than {bound}"
    bound = show_ratio(walk_square(first, second, pairs, way))
    return f"long enough {bound}"
