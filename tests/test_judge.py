import itertools
import random
import unittest
from fractions import Fraction

from checks import Checks, chance_line
from samples import LINES, TOP, told
from test_fences import chance_fence, least_measured, right_fence
from test_walks import greatest_square, right_walk
from test_ways import WAYS

from oneleash.errors import NoFence, NoText, NoWalk
from oneleash.judge import judged
from oneleash.leash import leash
from oneleash.texts import show_line, show_paper, show_ratio

STRAIGHT = "0,0 10,0"
BENT = "0,0 7,1 3,1 10,0"
REFUSALS = {"walk": NoWalk, "fence": NoFence}
WORDS = {"walk": "long enough ", "fence": "no shorter than "}


class Judged(Checks):
    def check(self, one, other, paper, answer):
        self.assertEqual(judged(one, other, paper), answer)
        self.assertIs(type(judged(one, other, paper)), str)

    def test_walks(self):
        self.check(STRAIGHT, BENT, "walk on 0:0 1/2:1 1/2:2 1:3", "long enough 5")
        self.check(STRAIGHT, BENT, "walk on 0:0 7/10:1 7/10:2 1:3", "long enough 17")
        self.check(STRAIGHT, BENT, "walk free 0:0 7/10:1 3/10:2 1:3", "long enough 1")
        self.check(STRAIGHT, BENT, "walk hops 0:0 1:1 1:2 1:3", "long enough 50")
        self.check(STRAIGHT, BENT, "walk part 0:0 1/3:1 1/3:1 1:1", "long enough 130/9")
        self.check("0,0", "0,0", "walk on 0:0", "long enough 0")
        self.check("5,5", "0,0 9,0", "walk part 0:5/9", "long enough 25")

    def test_fences(self):
        self.check(STRAIGHT, BENT, "fence on 0:1 1/2:1 1/2:2 1:2", "no shorter than 5")
        self.check(STRAIGHT, BENT, "fence on 0:1 2/5:1 2/5:2 1:2", "no shorter than 2")
        self.check(STRAIGHT, BENT, "fence free 0:1 1:1", "no shorter than 1")
        self.check(STRAIGHT, BENT, "fence hops 0:1 1:2", "no shorter than 50")
        self.check(STRAIGHT, BENT, "fence on 0:0", "no shorter than 0")
        self.check("0,0 1,0", "0,4 7,4", "fence part 0:1 0:0", "no shorter than 16")
        self.check("0,0 10,0", "1,1 3,2", "fence part 1:1 1:0", "no shorter than 53")

    def test_what_is_none_of_them(self):
        for paper in ("walk on 0:0 1:1 1/2:2 1:3", "walk hops 0:0 1/2:1 1/2:2 1:3", "walk on 0:0", "walk on 0:0 1:3",
                      "walk on 0:0 1/2:1 1/2:2 1:4", "walk on -1:0 1:3", "walk part 1:0 1:3", "walk hops 0:0 1:2 1:3",
                      "walk free 0:0 7/10:1 3/10:2 1:5/2"):
            self.check_refused(NoWalk, judged, STRAIGHT, BENT, paper)
        for paper in ("fence on 1/2:1 1/2:2 1:2", "fence on 0:1 1/2:1 1/2:2", "fence free 0:1 1/2:1 1/2:2 1:2",
                      "fence part 0:1 1:1", "fence hops 0:1 1/2:1 1:2", "fence on 0:5", "fence on -1:1 1:1",
                      "fence on 0:1 1:3/2"):
            self.check_refused(NoFence, judged, STRAIGHT, BENT, paper)

    def test_one_told_as_the_other(self):
        self.check_refused(NoFence, judged, STRAIGHT, BENT, "fence on 0:0 1/2:1 1/2:2 1:3")
        self.check_refused(NoWalk, judged, STRAIGHT, BENT, "walk on 0:1 1/2:1 1/2:2 1:2")
        self.check_refused(NoFence, judged, STRAIGHT, BENT, "fence free 0:0 7/10:1 3/10:2 1:3")
        self.check_refused(NoWalk, judged, STRAIGHT, BENT, "walk free 0:1 1:1")
        # Some are both: each walk of hops, and those of lines of one corner each.
        self.check(STRAIGHT, BENT, "fence hops 0:0 1:1 1:2 1:3", "no shorter than 0")
        self.check("1,1", "4,5", "walk on 0:0", "long enough 25")
        self.check("1,1", "4,5", "fence on 0:0", "no shorter than 25")

    def test_all_ways_by_chance(self):
        chance = random.Random(283)
        for step in range(40):
            one, other = chance_line(chance, 5, 9), chance_line(chance, 5, 9)
            for way in WAYS:
                square, walk, fence = leash(one, other, way)
                bound = show_ratio(square)
                texts = show_line(one), show_line(other)
                self.check(*texts, show_paper("walk", way, walk), "long enough " + bound)
                self.check(*texts, show_paper("fence", way, fence), "no shorter than " + bound)
                for word, pairs, asked in itertools.product(("walk", "fence"), (walk, fence), WAYS):
                    self.check_paper(one, other, word, asked, pairs)

    def check_paper(self, one, other, word, way, pairs):
        right = {"walk": right_walk, "fence": right_fence}[word](one, other, pairs, way)
        given = show_line(one), show_line(other), show_paper(word, way, pairs)
        if right:
            found = greatest_square(one, other, pairs) if word == "walk" else least_measured(one, other, pairs, way)
            self.check(*given, WORDS[word] + show_ratio(found))
        else:
            self.check_refused(REFUSALS[word], judged, *given)

    def test_papers_by_chance(self):
        chance = random.Random(293)
        spots = sorted({Fraction(a, b) for b in (1, 2, 3) for a in range(4 * b + 1)})
        for step in range(200):
            one, other = chance_line(chance, 4, 9), chance_line(chance, 4, 9)
            way = chance.choice(WAYS)
            pairs = chance_fence(chance, one, other, way, spots, 20)
            self.check_paper(one, other, chance.choice(("fence", "fence", "walk")), way, pairs)

    def test_twenty_pairs_and_many_figures(self):
        bottom = 10 ** 999 + 7
        places = [told(Fraction(k, bottom)) for k in range(18)] + [(1, 1)]
        one, other = [(-TOP, -TOP), (TOP, TOP)], [(-TOP, TOP), (TOP, TOP - 1)]
        walk = list(zip([(0, 1)] + places, places + [(1, 1)]))
        self.assertEqual(len(walk), 20)
        self.check_paper(one, other, "walk", "on", walk)
        self.check_paper(one, other, "walk", "on", walk[::-1])
        self.check_paper(one, other, "walk", "free", walk[:5] + walk[:2] + walk[7:])
        fence = [((0, 1), place) for place in reversed(places)]
        self.check_paper(one, other, "fence", "free", fence)
        amid = [((0, 1), (0, 1)), (told(Fraction(3, bottom)), told(Fraction(bottom - 2, bottom - 1))), ((1, 1), (1, 1))]
        self.check_paper(one, other, "walk", "on", amid)
        self.assertGreater(len(judged(show_line(one), show_line(other), show_paper("walk", "on", amid))), 4000)

    def test_texts_spoilt_one_by_one(self):
        right = [STRAIGHT, BENT, "walk on 0:0 1/2:1 1/2:2 1:3"]
        spoilt = [["", " ", "0,0 ", " 0,0", "0,0  1,1", "0", "0,0,0", "0,0 1,-0", "01,0", "1/2,0", "none",
                   " ".join(["0,0"] * 11), "1000000000000,0"]] * 2
        spoilt += [["", " ", "walk", "walk on", "walk on ", "walk on 0:0 ", "walk  on 0:0", "walk on 0", "way on 0:0",
                    "walk away 0:0", "walk on 2/4:0", "walk on 0:1/1", "walk on 0:-0", "walk on" + " 0:0" * 201, "0:0"]]
        for number, texts in enumerate(spoilt):
            for text in texts:
                given = list(right)
                given[number] = text
                self.check_refused(NoText, judged, *given)

    def test_what_is_no_text_of_its_kind_goes_ahead_of_what_is_no_walk(self):
        for word in ("walk", "fence"):
            paper = word + " on 1/2:1/2"
            self.check_refused(REFUSALS[word], judged, STRAIGHT, BENT, paper)
            self.check_refused(NoText, judged, STRAIGHT + " ", BENT, paper)
            self.check_refused(NoText, judged, STRAIGHT, BENT + ",", paper)
            self.check_refused(NoText, judged, STRAIGHT, BENT, paper + " ")

    def test_lines_of_all_kinds(self):
        for one, other in itertools.product(LINES, repeat=2):
            for word, way in itertools.product(("walk", "fence"), WAYS):
                self.check_paper(one, other, word, way, [((0, 1), (0, 1))])


if __name__ == "__main__":
    unittest.main()
