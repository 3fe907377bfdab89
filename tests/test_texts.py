import itertools
import random
import unittest
from fractions import Fraction

from checks import Checks, chance_line
from samples import LINES, TOP, told
from test_ways import WAYS

from oneleash.errors import NoText
from oneleash.leash import leash
from oneleash.lines import is_line
from oneleash.texts import read_line, read_paper, read_ratio, show_line, show_paper, show_ratio

GREAT = 10 ** 1000 - 1

NO_WHOLE = ["", "-", "+", "+1", "--1", "-+1", "00", "01", "-01", "007", "-0", "-00", "+0", "1-", "1-2", "- 1", " 1", "1 ",
            "1 2", "a", "1a", "a1", "0x1", "0b1", "1e3", "1_000", "1.0", "1.", ".5", "1,0", "1:0", "1;", "(1)", "[1]",
            "none", "~", "^", "1\n", "\t1", "1" * 1001, "-" + "1" * 1001, "9" * 2200]


def kinds_of(fraction):
    return [type(fraction)] + [type(number) for number in fraction]


class Ratios(Checks):
    def check(self, fraction, text):
        self.assertEqual(show_ratio(fraction), text)
        self.assertEqual(read_ratio(text), fraction)
        self.assertEqual(kinds_of(read_ratio(text)), [tuple, int, int])

    def test_whole_numbers(self):
        for number in (0, 1, -1, 9, 10, -10, 100, 123456789012, -TOP, 10 ** 110):
            self.check((number, 1), str(number))

    def test_fractions(self):
        self.check((1, 2), "1/2")
        self.check((-1, 2), "-1/2")
        self.check((22, 7), "22/7")
        self.check((-1000, 3), "-1000/3")
        self.check((3, 10 ** 110), "3/1" + "0" * 110)

    def test_a_thousand_figures(self):
        self.check((GREAT, 1), "9" * 1000)
        self.check((-GREAT, 1), "-" + "9" * 1000)
        self.check((GREAT, GREAT - 1), "9" * 1000 + "/" + "9" * 999 + "8")
        self.check((-1, 10 ** 999), "-1/1" + "0" * 999)

    def test_a_thousand_and_one(self):
        for text in ("1" + "0" * 1000, "-1" + "0" * 1000, "1/1" + "0" * 1000, "1" + "0" * 1000 + "/3",
                     "-1" + "0" * 1000 + "/3", "1" * 2199, "1/" + "3" * 2100, "7" * 49000):
            self.check_refused(NoText, read_ratio, text)

    def test_what_is_no_whole_number(self):
        for text in NO_WHOLE:
            self.check_refused(NoText, read_ratio, text)
            self.check_refused(NoText, read_ratio, text + "/7")
            self.check_refused(NoText, read_ratio, "7/" + text)

    def test_what_is_not_written_so(self):
        for text in ("1/1", "0/1", "-3/1", "2/2", "1/0", "0/0", "-1/0", "0/2", "0/5", "2/4", "-2/4", "10/5", "6/9", "1/-2",
                     "-1/-2", "1/+2", "1//2", "/2", "1/", "/", "//", "1/2/3", "1/2/", "/1/2", "1 /2", "1/ 2", "1/2 ",
                     " 1/2", "1/02", "01/2", "-0/2", "1\\2", "1:2", "1,2", "1/2,", "1/2:1", "1/2 1/3"):
            self.check_refused(NoText, read_ratio, text)

    def test_what_is_written_is_read(self):
        chance = random.Random(277)
        for step in range(300):
            size = 10 ** chance.choice((1, 2, 5, 40, 110, 400))
            fraction = told(Fraction(chance.randint(-size, size), chance.randint(1, size)))
            self.assertEqual(read_ratio(show_ratio(fraction)), fraction)

    def test_signs_put_in(self):
        for text, sign in itertools.product(("1/2", "-10", "0", "35/6"), " -+/0,:.a"):
            for number in range(len(text) + 1):
                spoilt = text[:number] + sign + text[number:]
                try:
                    read = read_ratio(spoilt)
                except NoText:
                    continue
                self.assertEqual(show_ratio(read), spoilt)


class Lines(Checks):
    def check(self, line, text):
        self.assertEqual(show_line(line), text)
        self.assertEqual(read_line(text), line)
        self.assertTrue(is_line(read_line(text)))

    def test_lines(self):
        self.check([(0, 0)], "0,0")
        self.check([(-3, 4), (0, -1), (-3, 4)], "-3,4 0,-1 -3,4")
        self.check([(TOP, -TOP)], "999999999999,-999999999999")
        self.check([(k, -k) for k in range(10)], "0,0 1,-1 2,-2 3,-3 4,-4 5,-5 6,-6 7,-7 8,-8 9,-9")
        for line in LINES:
            self.assertEqual(read_line(show_line(line)), line)

    def test_lines_of_too_many_corners(self):
        for count in (11, 12, 200):
            self.check_refused(NoText, read_line, " ".join(["1,2"] * count))

    def test_numbers_too_great(self):
        for text in ("1000000000000,0", "0,1000000000000", "-1000000000000,0", "0,-1000000000000", "0,0 1,1000000000000",
                     "1000000000000,0 1,1", "9" * 1000 + ",0", "0," + "9" * 1001):
            self.check_refused(NoText, read_line, text)

    def test_what_is_no_whole_number(self):
        for text in NO_WHOLE + ["1/2", "2/1", "0/1"]:
            self.check_refused(NoText, read_line, text + ",1")
            self.check_refused(NoText, read_line, "1," + text)
            self.check_refused(NoText, read_line, "1,1 1," + text)
            self.check_refused(NoText, read_line, "1,1 " + text + "," + text)

    def test_what_is_not_written_so(self):
        for text in ("", " ", "  ", ",", "1", "1,", ",1", "1,2,3", "1,2,", ",1,2", "1,,2", "1, 2", "1 ,2", "1 2", " 1,2",
                     "1,2 ", "1,2  3,4", "1,2\n3,4", "1,2\t3,4", "1,2,3,4", "1,2;3,4", "1,2 3", "1 1,2", "1:2", "(1,2)",
                     "[(1, 2)]", "1,2 3,4 ", " 1,2 3,4", "1,2   3,4", "1,2 -", "none", "on"):
            self.check_refused(NoText, read_line, text)

    def test_the_askers_own(self):
        self.check_own(lambda: read_line("1,2 3,4"))
        self.check_own(lambda: read_line("1,2"))
        self.check_stays(show_line, [(1, 2), (3, 4)])


class Papers(Checks):
    def check(self, word, way, pairs, text):
        self.assertEqual(show_paper(word, way, pairs), text)
        read = read_paper(text)
        self.assertEqual([type(read), len(read)], [tuple, 3])
        self.assertEqual(read, (word, way, pairs))
        self.assertEqual([type(read[2])] + [type(pair) for pair in read[2]], [list] + [tuple] * len(pairs))

    def test_papers(self):
        self.check("walk", "on", [((0, 1), (0, 1))], "walk on 0:0")
        self.check("fence", "part", [((1, 2), (3, 1)), ((7, 3), (0, 1))], "fence part 1/2:3 7/3:0")
        for word, way in itertools.product(("walk", "fence"), WAYS):
            self.check(word, way, [((1, 2), (3, 4)), ((5, 6), (7, 8))], f"{word} {way} 1/2:3/4 5/6:7/8")
        # Whether it is one of some lines isn't looked at.
        self.check("walk", "hops", [((-1, 2), (10 ** 110, 1))], "walk hops -1/2:1" + "0" * 110)
        self.check("fence", "on", [((-GREAT, 1), (1, GREAT))], "fence on -" + "9" * 1000 + ":1/" + "9" * 1000)

    def test_from_one_to_two_hundred_pairs(self):
        for count in (1, 2, 199, 200):
            pairs = [((k, 7), (1, k + 2)) if k % 7 else ((0, 1), (1, k + 2)) for k in range(count)]
            self.check("walk", "free", pairs, show_paper("walk", "free", pairs))
        for count in (201, 202, 500):
            self.check_refused(NoText, read_paper, "walk free" + " 0:0" * count)
        for text in ("walk on", "fence hops", "walk on ", "walk", "fence", "walk ", "", " ", "  ", "on", "0:0"):
            self.check_refused(NoText, read_paper, text)

    def test_fifty_thousand_signs(self):
        pairs = [((1, 10 ** 110 + k), (k + 1, 1)) for k in range(200)]
        text = show_paper("fence", "part", pairs)
        self.check("fence", "part", pairs, text)
        great = [((GREAT - k, 1), (1, GREAT - k)) for k in range(24)]
        self.assertLess(len(show_paper("walk", "on", great)), 50000)
        self.check("walk", "on", great, show_paper("walk", "on", great))
        self.check_refused(NoText, read_paper, "walk on 0:" + "1" * 49000)
        self.check_refused(NoText, read_paper, "walk on 0:0 " + "0" * 49000)

    def test_words_and_ways_that_are_none(self):
        for word in ("Walk", "WALK", "walks", "wal", "fences", "gate", "on", "0:0", "1", "-", "walk,", "none"):
            self.check_refused(NoText, read_paper, word + " on 0:0")
        for way in ("On", "ON", "onn", "o", "parts", "hop", "freely", "walk", "0:0", "1", "-", "none", "on,"):
            self.check_refused(NoText, read_paper, "walk " + way + " 0:0")
        for text in ("on walk 0:0", "walk 0:0 on", "0:0 walk on", "walk on on 0:0", "walk walk on 0:0", "walk on 0:0 on",
                     "walkon 0:0", "walk on0:0", "walk 0:0", "on 0:0"):
            self.check_refused(NoText, read_paper, text)

    def test_blanks(self):
        for text in (" walk on 0:0", "walk on 0:0 ", "walk  on 0:0", "walk on  0:0", "walk on 0:0  1:1", "walk on 0 :0",
                     "walk on 0: 0", "walk\ton 0:0", "walk on 0:0\n", "walk on\n0:0", "walk on 0:0 1:1 "):
            self.check_refused(NoText, read_paper, text)

    def test_what_is_no_pair(self):
        for text in NO_WHOLE + ["1/1", "2/4", "1/0", "0/2", "1/-2", "1/2/3", "/2", "1/", "0:0"]:
            for pair in (text + ":1", "1:" + text, text + ":" + text):
                self.check_refused(NoText, read_paper, "walk on " + pair)
                self.check_refused(NoText, read_paper, "fence free 0:0 " + pair)
                self.check_refused(NoText, read_paper, "fence free " + pair + " 0:0")
        for pair in (":", "::", "0", "0:", ":0", "0:0:0", "0::0", "0,0", "0;0", "0/0", "(0:0)", "0:0,", "0:0,1:1"):
            self.check_refused(NoText, read_paper, "walk on " + pair)

    def test_what_is_told_is_written_and_read(self):
        chance = random.Random(281)
        for step in range(30):
            one, other = chance_line(chance, 5, 9), chance_line(chance, 5, 9)
            for way in WAYS:
                square, walk, fence = leash(one, other, way)
                self.assertEqual(read_paper(show_paper("walk", way, walk)), ("walk", way, walk))
                self.assertEqual(read_paper(show_paper("fence", way, fence)), ("fence", way, fence))

    def test_the_askers_own(self):
        self.check_own(lambda: read_paper("walk on 0:0 1/2:1"))
        self.check_stays(show_paper, "walk", "on", [((0, 1), (0, 1)), ((1, 2), (1, 1))])


if __name__ == "__main__":
    unittest.main()
