"""The rows that a book is told."""

from oneleash.errors import NoRow, NoText
from oneleash.texts import read_corner, read_ratio
from oneleash.ways import WAYS

# Behind the first word; put may have more corners.
FORMS = {
    "put": ("name", "corner"),
    "strike": ("name",),
    "turn": ("name",),
    "thin": ("name", "square"),
    "back": (),
    "line": ("name",),
    "leash": ("name", "name", "way"),
    "walk": ("name", "name", "way"),
    "fence": ("name", "name", "way"),
    "near": ("name", "way"),
    "midst": ("way",),
    "names": (),
}


def form_of(words):
    form = FORMS[words[0]]
    if words[0] == "put":
        return form + ("corner",) * (len(words) - 3)
    return form


def read_square(text):
    square = read_ratio(text)
    if square[0] < 0:
        raise NoRow()
    return square


def read_way(text):
    if text not in WAYS:
        raise NoRow()
    return text


def read_word(kind, word):
    if kind == "corner":
        return read_corner(word)
    if kind == "square":
        return read_square(word)
    if kind == "way":
        return read_way(word)
    # Whether a name is one is asked later, by the book.
    return word


def read_words(form, words):
    try:
        return [read_word(kind, word) for kind, word in zip(form, words)]
    except NoText:
        raise NoRow()


def read_row(row):
    # A list: the first word, and what the others say.
    if not isinstance(row, str):
        raise NoRow()
    words = row.split(" ")
    if "" in words or words[0] not in FORMS:
        raise NoRow()
    form = form_of(words)
    if len(words) - 1 != len(form):
        raise NoRow()
    return [words[0]] + read_words(form, words[1:])
