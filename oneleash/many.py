"""Of many lines the one that is nearest, and the one that lies in the midst."""

from oneleash.errors import NoLines
from oneleash.leash import leash
from oneleash.ratios import number_of_greatest, number_of_least
from oneleash.ways import look_at_way


def look_at_lines(lines):
    if len(lines) == 0:
        raise NoLines()


def leashes(line, lines, way):
    return [leash(line, other, way) for other in lines]


def nearest(line, lines, way="on"):
    look_at_way(way)
    look_at_lines(lines)
    answers = leashes(line, lines, way)
    number = number_of_least([answer[0] for answer in answers])
    fences = [answer[2] for answer in answers]
    return (number, answers[number][0], answers[number][1], fences)


def far_show(answers):
    # The leash to the farthest line as a tuple of its square, of that line's number and of the fence.
    to = number_of_greatest([answer[0] for answer in answers])
    return (answers[to][0], to, answers[to][2])


def midst(lines, way="on"):
    look_at_way(way)
    look_at_lines(lines)
    table = [leashes(line, lines, way) for line in lines]
    shows = [far_show(answers) for answers in table]
    number = number_of_least([show[0] for show in shows])
    walks = [answer[1] for answer in table[number]]
    return (number, shows[number][0], walks, [(show[1], show[2]) for show in shows])
