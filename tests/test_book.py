import random
import unittest
from fractions import Fraction

from checks import Checks, chance_line
from samples import LINES, TOP, fraction, things_not_whole, told
from test_gates import things_no_square
from test_texts import NO_WHOLE
from test_ways import WAYS

from oneleash.book import Book
from oneleash.errors import LeashError, NoDeed, NoLine, NoLines, NoName, NoRow, NoSquare, TooMany, Twice
from oneleash.judge import judged
from oneleash.leash import leash
from oneleash.many import midst, nearest
from oneleash.texts import show_line, show_paper, show_ratio
from oneleash.thinning import thinned

HILL = [(0, 0), (3, 1), (5, 4), (7, 1), (10, 0)]
NAMES = ["a", "b", "zz", "abcdefgh", "nonee", "line"]


def things_no_name():
    wrong = [thing for thing in things_not_whole() if not (isinstance(thing, str) and thing == "on")]
    return wrong + [0, 1, -1, "none", "A", "aB", "abcdefghi", "a" * 100, "a1", "1", "a b", " a", "a ", "a_b", "a-b", "a\n",
                    "\xe4", "a\xe4", ["a"], ("a",), {"a": 1}, {"a"}, b"a", "a,b", "~"]


def things_no_line():
    return things_not_whole() + [[[0, 0]], [(0, 0), (1, 10 ** 12)], [(0, 0)] * 11, ((0, 0), (1, 1)), [(0, 0, 0)],
                                 [(0, True)], "0,0", [(0, 0), None]]


def filled(*names):
    book = Book()
    for number, name in enumerate(names):
        book.put(name, [(0, number), (5, number * number), (9, number)])
    return book


def stand(book):
    return [(name, book.line(name)) for name in book.names()]


class BookChecks(Checks):
    def refuses(self, book, error, ask, *given):
        """By its class; nothing is changed, and it is no deed."""
        before = stand(book)
        self.check_refused(error, ask, *given)
        self.assertEqual(stand(book), before)

    def takes_back(self, book, *earlier):
        """How it stood ahead of each deed, the last one first."""
        for before in earlier:
            self.assertIsNone(book.back())
            self.assertEqual(stand(book), before)


class Deeds(BookChecks):
    def test_an_empty_book(self):
        book = Book()
        self.assertEqual(book.names(), [])
        self.refuses(book, NoDeed, book.back)
        for thing in things_no_name() + NAMES:
            for ask in (book.line, book.strike, book.turn):
                self.refuses(book, NoName, ask, thing)
            self.refuses(book, NoName, book.thin, thing, (1, 1))
        self.refuses(book, NoDeed, book.back)

    def test_put(self):
        book = Book()
        for number, name in enumerate(NAMES):
            self.assertIsNone(book.put(name, LINES[number]))
            self.assertEqual(book.names(), NAMES[:number + 1])
            self.assertEqual(book.line(name), LINES[number])
            self.assertIs(type(book.line(name)), list)
        self.takes_back(book, *[[(NAMES[k], LINES[k]) for k in range(count)] for count in (5, 4, 3, 2, 1, 0)])
        self.refuses(book, NoDeed, book.back)

    def test_put_refused(self):
        book = filled("a", "b")
        for thing in things_no_name():
            self.refuses(book, NoName, book.put, thing, HILL)
            self.refuses(book, NoName, book.put, thing, None)
        for line in [HILL] + things_no_line():
            self.refuses(book, Twice, book.put, "a", line)
        for line in things_no_line():
            self.refuses(book, NoLine, book.put, "c", line)
        self.takes_back(book, stand(filled("a")), [])

    def test_six_lines_and_a_seventh(self):
        book = filled(*NAMES)
        self.refuses(book, TooMany, book.put, "more", HILL)
        self.refuses(book, NoLine, book.put, "more", [])
        self.refuses(book, Twice, book.put, "zz", HILL)
        self.refuses(book, NoName, book.put, "More", HILL)
        book.strike("zz")
        self.assertIsNone(book.put("more", HILL))
        self.assertEqual(book.names(), ["a", "b", "abcdefgh", "nonee", "line", "more"])
        self.refuses(book, TooMany, book.put, "zz", HILL)
        book.back()
        self.assertIsNone(book.put("zz", HILL))

    def test_ten_corners(self):
        book = Book()
        book.put("a", LINES[8])
        self.assertEqual(book.line("a"), LINES[8])
        self.assertEqual(book.said("turn a"), "ok")
        self.assertEqual(book.line("a"), LINES[8][::-1])

    def test_strike(self):
        book = filled("a", "b", "c")
        full = stand(book)
        self.assertIsNone(book.strike("b"))
        self.assertEqual(stand(book), [full[0], full[2]])
        self.refuses(book, NoName, book.line, "b")
        self.refuses(book, NoName, book.strike, "b")
        self.assertIsNone(book.put("b", HILL))
        self.assertEqual(stand(book), [full[0], full[2], ("b", HILL)])
        self.takes_back(book, [full[0], full[2]], full, full[:2], full[:1], [])
        self.refuses(book, NoDeed, book.back)

    def test_turn(self):
        book = filled("a", "b", "c")
        full = stand(book)
        self.assertIsNone(book.turn("b"))
        self.assertEqual(stand(book), [full[0], ("b", [(9, 1), (5, 1), (0, 1)]), full[2]])
        self.assertIsNone(book.turn("b"))
        self.assertEqual(stand(book), full)
        self.takes_back(book, [full[0], ("b", [(9, 1), (5, 1), (0, 1)]), full[2]], full, full[:2])

    def test_thin(self):
        book = Book()
        book.put("a", HILL)
        book.put("hill", HILL)
        book.put("b", [(1, 1)])
        full = stand(book)
        self.assertIsNone(book.thin("hill", (49, 41)))
        thin = [full[0], ("hill", [(0, 0), (5, 4), (10, 0)]), full[2]]
        self.assertEqual(stand(book), thin)
        self.assertIsNone(book.thin("hill", (16, 1)))
        flat = [full[0], ("hill", [(0, 0), (10, 0)]), full[2]]
        self.assertEqual(stand(book), flat)
        self.takes_back(book, thin, full)
        for square in ((0, 1), (1, 1), (49, 41), (16, 1), (10 ** 110 - 1, 1)):
            book.thin("a", square)
            self.assertEqual(book.line("a"), [HILL[number] for number in thinned(HILL, square)[0]])
            book.back()

    def test_thin_refused(self):
        book = filled("a", "b")
        for thing in things_no_square():
            self.refuses(book, NoSquare, book.thin, "a", thing)
            self.refuses(book, NoName, book.thin, "c", thing)
        for thing in things_no_name() + ["c", "aa"]:
            self.refuses(book, NoName, book.thin, thing, (1, 1))
            self.refuses(book, NoName, book.thin, thing, None)
        self.takes_back(book, stand(filled("a")), [])

    def test_names_that_are_not_there(self):
        book = filled("a", "b")
        for thing in things_no_name() + ["c", "aa", "ab", "names"]:
            for ask in (book.line, book.strike, book.turn):
                self.refuses(book, NoName, ask, thing)
        self.takes_back(book, stand(filled("a")), [])

    def test_deeds_that_change_nothing_count(self):
        book = Book()
        book.put("a", [(1, 1)])
        book.turn("a")
        book.thin("a", (0, 1))
        book.thin("a", (5, 1))
        self.takes_back(book, *[[("a", [(1, 1)])]] * 3, [])
        self.refuses(book, NoDeed, book.back)

    def test_taking_back_is_no_deed(self):
        book = Book()
        book.put("a", HILL)
        book.put("b", HILL)
        book.back()
        book.put("c", LINES[4])
        self.takes_back(book, [("a", HILL)], [])
        self.refuses(book, NoDeed, book.back)
        self.refuses(book, NoDeed, book.back)
        book.put("d", HILL)
        self.assertEqual(book.names(), ["d"])

    def test_refused_deeds_do_not_count(self):
        book = filled("a", "b")
        full = stand(book)
        book.turn("a")
        for error, ask, given in ((Twice, book.put, ("b", HILL)), (NoName, book.strike, ("c",)), (NoName, book.turn, ("d",)),
                                  (NoSquare, book.thin, ("a", (-1, 1))), (NoLine, book.put, ("e", [])),
                                  (NoRow, book.said, ("turn",)), (NoName, book.said, ("turn x",))):
            self.refuses(book, error, ask, *given)
        self.takes_back(book, full)

    def test_two_books_know_nothing_of_one_another(self):
        one, other = Book(), Book()
        one.put("a", HILL)
        self.assertEqual(other.names(), [])
        self.refuses(other, NoDeed, other.back)
        self.refuses(other, NoName, other.line, "a")

    def test_the_askers_own_and_copies(self):
        line = list(HILL)
        book = Book()
        book.put("a", line)
        book.put("b", line)
        line.clear()
        self.assertEqual(stand(book), [("a", HILL), ("b", HILL)])
        self.check_own(lambda: book.line("a"))
        self.check_own(book.names)
        told_once = book.line("a")
        book.turn("a")
        self.assertEqual(told_once, HILL)
        told_once.clear()
        book.back()
        self.assertEqual(stand(book), [("a", HILL), ("b", HILL)])


class Rows(BookChecks):
    def says(self, book, row, answer):
        self.assertEqual(book.said(row), answer, row)
        self.assertIs(type(book.said("names")), str)

    def test_put_line_and_names(self):
        book = Book()
        self.says(book, "names", "none")
        self.says(book, "put a 0,0", "ok")
        self.says(book, "names", "a")
        self.says(book, "put bent 0,0 7,1 3,1 10,0", "ok")
        self.says(book, "put put -999999999999,999999999999", "ok")
        self.says(book, "names", "a bent put")
        self.says(book, "line a", "0,0")
        self.says(book, "line bent", "0,0 7,1 3,1 10,0")
        self.says(book, "line put", "-999999999999,999999999999")
        self.assertEqual(book.line("put"), [(-TOP, TOP)])
        self.says(book, "back", "ok")
        self.says(book, "names", "a bent")
        self.says(book, "put ten" + " 1,2" * 10, "ok")
        self.assertEqual(book.line("ten"), [(1, 2)] * 10)

    def test_strike_turn_thin_and_back(self):
        book = Book()
        book.put("hill", HILL)
        book.put("a", [(1, 1)])
        self.says(book, "turn hill", "ok")
        self.says(book, "line hill", "10,0 7,1 5,4 3,1 0,0")
        self.says(book, "thin hill 49/41", "3")
        self.says(book, "line hill", "10,0 5,4 0,0")
        self.says(book, "thin hill 0", "3")
        self.says(book, "thin hill 16", "2")
        self.says(book, "thin a 16", "1")
        self.says(book, "strike hill", "ok")
        self.says(book, "names", "a")
        for names in ("hill a", "hill a", "hill a", "hill a", "hill a", "hill a", "hill", "none"):
            self.says(book, "back", "ok")
            self.says(book, "names", names)
        self.refuses(book, NoDeed, book.said, "back")

    def test_leash_walk_and_fence(self):
        book = Book()
        book.put("a", [(0, 0), (10, 0)])
        book.put("b", [(0, 0), (7, 1), (3, 1), (10, 0)])
        for way, square in (("on", "5"), ("part", "5"), ("free", "1"), ("hops", "50")):
            self.says(book, "leash a b " + way, square)
            self.says(book, "leash a a " + way, "0")
        book.put("c", [(0, 0), (4, 3), (9, -2)])
        for one in "abc":
            for other in "abc":
                for way in WAYS:
                    lines = book.line(one), book.line(other)
                    square, walk, fence = leash(*lines, way)
                    self.says(book, f"leash {one} {other} {way}", show_ratio(square))
                    self.says(book, f"walk {one} {other} {way}", show_paper("walk", way, walk))
                    self.says(book, f"fence {one} {other} {way}", show_paper("fence", way, fence))
                    texts = [book.said("line " + name) for name in (one, other)]
                    bound = show_ratio(square)
                    self.assertEqual(judged(*texts, book.said(f"walk {one} {other} {way}")), "long enough " + bound)
                    self.assertEqual(judged(*texts, book.said(f"fence {one} {other} {way}")), "no shorter than " + bound)

    def test_near_and_midst(self):
        book = Book()
        for name, level in (("f", 0), ("e", 1), ("d", 3), ("c", 6), ("b", 5), ("a", 15)):
            book.put(name, [(0, level), (10, level)])
        for way in WAYS:
            self.says(book, "near f " + way, "e 1")
            self.says(book, "near e " + way, "f 1")
            # Of several the first in the book's order.
            self.says(book, "near d " + way, "e 4")
            self.says(book, "near a " + way, "c 81")
            self.says(book, "midst " + way, "c 81")
        book.strike("a")
        book.put("a", [(0, 4), (10, 5)])
        self.says(book, "near a on", "b 1")
        book.strike("b")
        book.put("b", [(0, 5), (10, 5)])
        self.says(book, "near a on", "b 1")
        self.says(book, "midst on", "d 9")

    def test_several_as_near(self):
        book = Book()
        for name in ("x", "c", "b", "a"):
            book.put(name, [(0, 1), (4, 1)])
        self.says(book, "near x on", "c 0")
        self.says(book, "near c on", "x 0")
        self.says(book, "midst on", "x 0")
        book.strike("x")
        self.says(book, "midst on", "c 0")
        book.strike("c")
        self.says(book, "near a on", "b 0")
        book.strike("b")
        self.says(book, "midst hops", "a 0")

    def test_near_without_another_and_midst_without_a_line(self):
        book = Book()
        for way in WAYS:
            self.refuses(book, NoLines, book.said, "midst " + way)
            self.refuses(book, NoName, book.said, "near a " + way)
        book.put("a", HILL)
        for way in WAYS:
            self.refuses(book, NoLines, book.said, "near a " + way)
            self.refuses(book, NoName, book.said, "near b " + way)
            self.says(book, "midst " + way, "a 0")

    def test_near_and_midst_by_chance(self):
        chance = random.Random(307)
        for step in range(12):
            book = Book()
            names = chance.sample(["a", "b", "c", "d", "e", "f"], chance.randint(2, 4))
            for name in names:
                book.put(name, chance_line(chance, 4, chance.choice((2, 9, TOP))))
            for way in WAYS:
                lines = [book.line(name) for name in names]
                number, square, walks, shows = midst(lines, way)
                self.says(book, "midst " + way, f"{names[number]} {show_ratio(square)}")
                others = names[1:]
                number, square, walk, fences = nearest(lines[0], lines[1:], way)
                self.says(book, f"near {names[0]} {way}", f"{others[number]} {show_ratio(square)}")


class RowsRefused(BookChecks):
    ROWS = ["put new 0,0 1,1", "strike a", "turn a", "thin a 1/2", "back", "line a", "leash a b on", "walk a b part",
            "fence a b free", "near a hops", "midst on", "names"]

    def test_too_few_and_too_many_words(self):
        for row in self.ROWS:
            book = filled("a", "b")
            self.assertIsInstance(book.said(row), str)
            book = filled("a", "b")
            # Of the row that puts in, one corner is enough.
            words = row.split()[:3] if row.startswith("put") else row.split()
            for number in range(len(words)):
                self.refuses(book, NoRow, book.said, " ".join(words[:number]))
                self.refuses(book, NoRow, book.said, " ".join(words[:number] + words[number + 1:]))
            for word in ("a", "on", "0", "x"):
                self.refuses(book, NoRow, book.said, row + " " + word)
                self.refuses(book, NoRow, book.said, word + " " + row)
            self.takes_back(book, stand(filled("a")), [])

    def test_blanks(self):
        for row in self.ROWS:
            book = filled("a", "b")
            for spoilt in (" " + row, row + " ", "  " + row, row + "  "):
                self.refuses(book, NoRow, book.said, spoilt)
            if " " in row:
                self.refuses(book, NoRow, book.said, row.replace(" ", "  ", 1))
                self.refuses(book, NoRow, book.said, "  ".join(row.rsplit(" ", 1)))
                self.refuses(book, NoRow, book.said, row.replace(" ", "", 1))
            words = row.split()
            for number in range(len(words)):
                # As many parts as there should be words, but one is none.
                self.refuses(book, NoRow, book.said, " ".join(words[:number] + [""] + words[number + 1:]))
            self.takes_back(book, stand(filled("a")), [])

    def test_what_is_no_row(self):
        book = filled("a", "b")
        for row in ("", " ", "  ", "a", "none", "Names", "NAMES", "name", "lines", "puts a 0,0", "Put a 0,0", "said names",
                    "names a", "names none", "back 1", "back a", "swap a b", "leash", "on", "near on", "thin a", "~",
                    "midst a on", "nearest a on", "0,0", "names\n", "back\n"):
            self.refuses(book, NoRow, book.said, row)
        for thing in things_not_whole():
            if not isinstance(thing, str):
                self.refuses(book, NoRow, book.said, thing)
        for thing in (0, 1, ["names"], ("names",), b"names", {"names": 1}, [b"names"]):
            self.refuses(book, NoRow, book.said, thing)
        self.takes_back(book, stand(filled("a")), [])

    def test_what_is_no_corner(self):
        book = filled("a", "b")
        corners = ["0", "0,", ",0", ",", "0,0,0", "0;0", "0:0", "(0,0)", "0,,0", "1/2,0", "0,2/1", "none", "a"]
        corners += [text + ",1" for text in NO_WHOLE if " " not in text] + ["1," + text for text in NO_WHOLE if " " not in text]
        for corner in corners:
            # Ahead of all other refusals.
            for row in (f"put c {corner}", f"put c 0,0 {corner}", f"put c {corner} 0,0", f"put a {corner}", f"put None {corner}"):
                self.refuses(book, NoRow, book.said, row)

    def test_what_is_no_square(self):
        book = filled("a", "b")
        squares = ["-1", "-1/2", "1/1", "2/4", "1/0", "0/2", "1/-2", "/2", "1/", "1/2/3", "0,0", "on", "a"]
        squares += [text for text in NO_WHOLE if " " not in text and text]
        for square in squares:
            for name in ("a", "c", "None"):
                self.refuses(book, NoRow, book.said, f"thin {name} {square}")

    def test_what_is_no_way(self):
        book = filled("a", "b")
        for way in ("On", "ON", "onn", "o", "parts", "hop", "freely", "a", "0", "none", "walk", "on,"):
            for row in (f"leash a b {way}", f"walk a b {way}", f"fence a b {way}", f"near a {way}", f"midst {way}",
                        f"leash x b {way}", f"near x {way}"):
                self.refuses(book, NoRow, book.said, row)
            self.refuses(Book(), NoRow, Book().said, f"midst {way}")

    def test_put(self):
        book = filled(*NAMES)
        for name in ("none", "A", "a1", "abcdefghi", "0", "a-b", "0,0", "~"):
            self.refuses(book, NoName, book.said, f"put {name} 0,0")
            self.refuses(book, NoName, book.said, f"put {name} 1000000000000,0")
        long = "put {} " + " ".join(["0,0"] * 11)
        self.refuses(book, Twice, book.said, "put a 0,0")
        self.refuses(book, Twice, book.said, "put a 0,-1000000000000")
        self.refuses(book, Twice, book.said, long.format("zz"))
        self.refuses(book, NoLine, book.said, "put new 0,-1000000000000")
        self.refuses(book, NoLine, book.said, long.format("new"))
        self.refuses(book, TooMany, book.said, "put new 0,0")
        book.strike("a")
        self.refuses(book, NoLine, book.said, "put new 0,0 1000000000000,0")
        self.refuses(book, NoLine, book.said, "put new " + "9" * 1000 + ",0")
        self.refuses(book, NoLine, book.said, long.format("a"))
        self.assertEqual(book.said("put a 0,0"), "ok")

    def test_names_that_are_not_there(self):
        book = filled("a", "b")
        for name in ("c", "aa", "none", "A", "0", "abcdefghi", "0,0", "on"):
            for row in (f"strike {name}", f"turn {name}", f"thin {name} 1", f"line {name}", f"leash {name} b on",
                        f"walk a {name} hops", f"fence {name} {name} free", f"near {name} part", f"leash a {name} on"):
                self.refuses(book, NoName, book.said, row)
        self.takes_back(book, stand(filled("a")), [])

    def test_refusals_are_all_under_one(self):
        for row in ("", "back", "line a", "midst on"):
            with self.assertRaises(LeashError):
                Book().said(row)
            with self.assertRaises(ValueError):
                Book().said(row)


class Model:
    """A book by the words, with all lines anew for each deed."""

    def __init__(self):
        self.stands = [[]]

    def do(self, entries):
        self.stands.append(entries)

    def now(self):
        return self.stands[-1]


class ByChance(BookChecks):
    def step(self, chance, book, model):
        entries = model.now()
        names = [name for name, line in entries]
        name = chance.choice(NAMES + ["new", "none", "X"])
        deed = chance.choice(["put", "put", "put", "strike", "turn", "thin", "back"])
        if deed == "put":
            line = chance_line(chance, 5, 6)
            error = NoName if name in ("none", "X") else Twice if name in names else TooMany if len(names) == 6 else None
            self.told(book, error, chance, book.put, (name, line), f"put {name} {show_line(line)}")
            if error is None:
                model.do(entries + [(name, line)])
        elif deed == "back":
            error = NoDeed if len(model.stands) == 1 else None
            self.told(book, error, chance, book.back, (), "back")
            if error is None:
                model.stands.pop()
        else:
            square = told(Fraction(chance.randint(0, 60), chance.randint(1, 3)))
            error = None if name in names else NoName
            given = (name, square) if deed == "thin" else (name,)
            row = f"thin {name} {show_ratio(square)}" if deed == "thin" else f"{deed} {name}"
            ask = {"strike": book.strike, "turn": book.turn, "thin": book.thin}[deed]
            self.told(book, error, chance, ask, given, row)
            if error is None:
                model.do([entry if entry[0] != name else (name, self.changed(deed, entry[1], square))
                          for entry in entries if deed != "strike" or entry[0] != name])

    def changed(self, deed, line, square):
        return line[::-1] if deed == "turn" else [line[number] for number in thinned(line, square)[0]]

    def told(self, book, error, chance, ask, given, row):
        by_row = chance.random() < 0.5
        if error is not None:
            self.refuses(book, error, *((book.said, row) if by_row else (ask, *given)))
        elif not by_row:
            self.assertIsNone(ask(*given))
        elif row.startswith("thin"):
            self.assertEqual(book.said(row), str(len(book.line(given[0]))))
        else:
            self.assertEqual(book.said(row), "ok")

    def test_many_deeds(self):
        chance = random.Random(311)
        for run in range(25):
            book, model = Book(), Model()
            for step in range(60):
                self.step(chance, book, model)
                self.assertEqual(stand(book), model.now())
                names = [name for name, line in model.now()]
                self.assertEqual(book.said("names"), " ".join(names) or "none")
                for name, line in model.now():
                    self.assertEqual(book.said("line " + name), show_line(line))
            while len(model.stands) > 1:
                model.stands.pop()
                self.takes_back(book, model.now())
            self.refuses(book, NoDeed, book.back)


class Bounds(BookChecks):
    def test_six_lines_of_five_corners(self):
        chance = random.Random(313)
        book = Book()
        for name in "abcdef":
            book.put(name, [(chance.randint(-TOP, TOP), chance.randint(-TOP, TOP)) for corner in range(5)])
        for way in WAYS:
            name, square = book.said("midst " + way).split()
            far = {one: max(fraction(leash(book.line(one), book.line(other), way)[0]) for other in "abcdef")
                   for one in "abcdef"}
            self.assertEqual((name, square), (min(far, key=far.get), show_ratio(told(min(far.values())))))
            self.assertIn(book.said("near f " + way).split()[0], "abcde")


if __name__ == "__main__":
    unittest.main()
