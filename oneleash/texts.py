"""Fractions, lines and papers as texts."""

from oneleash.errors import NoText
from oneleash.lines import is_line
from oneleash.ratios import is_ratio
from oneleash.ways import WAYS

MOST_FIGURES = 1000
MOST_PAIRS = 200
FIGURES = "0123456789"
PAPERS = ("walk", "fence")


def show_ratio(a):
    top = a[0]
    bottom = a[1]
    return str(top) if bottom == 1 else f"{top}/{bottom}"


def show_corner(corner):
    x = corner[0]
    y = corner[1]
    return f"{x},{y}"


def show_line(line):
    return " ".join([show_corner(corner) for corner in line])


def show_pair(pair):
    x = show_ratio(pair[0])
    y = show_ratio(pair[1])
    return f"{x}:{y}"


def show_paper(word, way, pairs):
    return " ".join([word, way] + [show_pair(pair) for pair in pairs])


def read_whole(text):
    figures = text[1:] if text.startswith("-") else text
    # Python itself reads more than is written here: blanks, a plus, noughts ahead.
    if not 1 <= len(figures) <= MOST_FIGURES or not all([sign in FIGURES for sign in figures]):
        raise NoText()
    number = int(text)
    if str(number) != text:
        raise NoText()
    return number


def read_ratio(text):
    numbers = [read_whole(part) for part in text.split("/")]
    fraction = (numbers[0], numbers[-1] if len(numbers) > 1 else 1)
    if not is_ratio(fraction) or show_ratio(fraction) != text:
        raise NoText()
    return fraction


def two_parts(text, sign):
    parts = text.split(sign)
    if len(parts) != 2:
        raise NoText()
    return parts


def read_corner(text):
    parts = two_parts(text, ",")
    return (read_whole(parts[0]), read_whole(parts[1]))


def read_line(text):
    line = [read_corner(word) for word in text.split(" ")]
    if not is_line(line):
        raise NoText()
    return line


def read_pair(text):
    parts = two_parts(text, ":")
    return (read_ratio(parts[0]), read_ratio(parts[1]))


def read_paper(text):
    words = text.split(" ")
    if not 3 <= len(words) <= MOST_PAIRS + 2 or words[0] not in PAPERS or words[1] not in WAYS:
        raise NoText()
    return (words[0], words[1], [read_pair(word) for word in words[2:]])
