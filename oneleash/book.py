"""A book that keeps lines by names."""

from oneleash.errors import NoDeed, NoName, TooMany, Twice
from oneleash.leash import leash
from oneleash.lines import line_of
from oneleash.many import midst, nearest
from oneleash.rows import read_row
from oneleash.texts import show_line, show_paper, show_ratio
from oneleash.thinning import thinned

MOST_LINES = 6
MOST_LETTERS = 8
LETTERS = "abcdefghijklmnopqrstuvwxyz"
NOTHING = "none"
DEEDS = ("put", "strike", "turn", "back")


def is_name(thing):
    if not isinstance(thing, str) or not 1 <= len(thing) <= MOST_LETTERS or thing == NOTHING:
        return False
    return all([letter in LETTERS for letter in thing])


def answer_of_leash(word, one, other, way):
    answer = leash(one, other, way)
    if word == "walk":
        return show_paper(word, way, answer[1])
    if word == "fence":
        return show_paper(word, way, answer[2])
    return show_ratio(answer[0])


def name_and_square(names, answer):
    name = names[answer[0]]
    square = show_ratio(answer[1])
    return f"{name} {square}"


class Book:
    def __init__(self):
        # Tuples of a name and a line. Each deed makes a new list, so that the earlier ones stay for taking back.
        self.kept = []
        self.earlier = []

    def change_to(self, kept):
        self.earlier.append(self.kept)
        self.kept = kept

    def change_line(self, name, line):
        self.change_to([(name, line) if entry[0] == name else entry for entry in self.kept])

    def names(self):
        return [entry[0] for entry in self.kept]

    def line(self, name):
        if is_name(name):
            for entry in self.kept:
                if entry[0] == name:
                    return list(entry[1])
        raise NoName()

    def put(self, name, corners):
        if not is_name(name):
            raise NoName()
        if name in self.names():
            raise Twice()
        line = line_of(corners)
        if len(self.kept) >= MOST_LINES:
            raise TooMany()
        self.change_to(self.kept + [(name, line)])

    def strike(self, name):
        self.line(name)
        self.change_to([entry for entry in self.kept if entry[0] != name])

    def turn(self, name):
        line = self.line(name)
        line.reverse()
        self.change_line(name, line)

    def thin(self, name, square):
        line = self.line(name)
        self.change_line(name, [line[number] for number in thinned(line, square)[0]])

    def back(self):
        if len(self.earlier) == 0:
            raise NoDeed()
        self.kept = self.earlier.pop()

    def do_deed(self, words):
        if words[0] == "put":
            self.put(words[1], words[2:])
        elif words[0] == "strike":
            self.strike(words[1])
        elif words[0] == "turn":
            self.turn(words[1])
        else:
            self.back()

    def tell_names(self):
        return " ".join(self.names()) if len(self.kept) > 0 else NOTHING

    def tell_near(self, name, way):
        line = self.line(name)
        others = [other for other in self.names() if other != name]
        return name_and_square(others, nearest(line, [self.line(other) for other in others], way))

    def tell_midst(self, way):
        return name_and_square(self.names(), midst([self.line(name) for name in self.names()], way))

    def answer_to(self, words):
        if words[0] == "thin":
            self.thin(words[1], words[2])
            return str(len(self.line(words[1])))
        if words[0] == "line":
            return show_line(self.line(words[1]))
        if words[0] == "names":
            return self.tell_names()
        if words[0] == "near":
            return self.tell_near(words[1], words[2])
        if words[0] == "midst":
            return self.tell_midst(words[1])
        return answer_of_leash(words[0], self.line(words[1]), self.line(words[2]), words[3])

    def said(self, row):
        words = read_row(row)
        if words[0] in DEEDS:
            self.do_deed(words)
            return "ok"
        return self.answer_to(words)
