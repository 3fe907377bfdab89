"""A line with the fewest of its own corners within a leash."""

from oneleash.gates import look_at_square
from oneleash.going import go_on
from oneleash.lines import last_of


def part_of(line, a, b):
    return line[a:b + 1]


def short_cut(line, a, b):
    return [line[a], line[b]]


def corners_apart(line):
    # All tuples of two corners' numbers, the first one less, rising.
    numbers = []
    for a in range(last_of(line)):
        numbers.extend([(a, b) for b in range(a + 1, len(line))])
    return numbers


def cuts_of(line, square):
    # What going tells of each short cut: it is good where that is a walk.
    cuts = {}
    for a, b in corners_apart(line):
        cuts[(a, b)] = go_on(short_cut(line, a, b), part_of(line, a, b), square)
    return cuts


def good_begins(cuts, b):
    return [a for a in range(b) if cuts[(a, b)][0] == "walk"]


def marks_of(line, cuts):
    marks = [0]
    for b in range(1, len(line)):
        # There is one at least: the short cut along a single stretch is good for every square.
        marks.append(1 + min([marks[a] for a in good_begins(cuts, b)]))
    return marks


def kept_of(line, cuts, marks):
    b = last_of(line)
    kept = [b]
    while b > 0:
        begins = good_begins(cuts, b)
        b = min(begins, key=lambda a: marks[a])
        kept.append(b)
    kept.reverse()
    return kept


def thinned(line, square):
    look_at_square(square)
    cuts = cuts_of(line, square)
    marks = marks_of(line, cuts)
    kept = kept_of(line, cuts, marks)
    walks = [cuts[(a, b)][1] for a, b in zip(kept, kept[1:])]
    fences = [(a, b, cuts[(a, b)][1]) for a, b in corners_apart(line) if marks[b] - marks[a] >= 2]
    return (kept, walks, marks, fences)
