import unittest

from samples import things_not_whole

from oneleash.errors import LeashError, NoWay
from oneleash.ways import look_at_way

WAYS = ["on", "part", "free", "hops"]


def things_no_way():
    wrong = [thing for thing in things_not_whole() if not (isinstance(thing, str) and thing == "on")]
    return wrong + [0, 1, "On", "ON", " on", "on ", "o", "n", "onn", "parts", "hop", "frei", "on\n", "part free", b"on",
                    ["on"], ("on",), {"on": 1}, {"on"}, ("on", "part", "free", "hops"), list("on")]


class Ways(unittest.TestCase):
    def test_the_four_ways(self):
        for way in WAYS:
            self.assertIsNone(look_at_way(way))
            self.assertIsNone(look_at_way("".join(list(way))))

    def test_all_else_is_refused(self):
        for thing in things_no_way():
            with self.subTest(thing=repr(thing)):
                with self.assertRaises(NoWay):
                    look_at_way(thing)
        with self.assertRaises(LeashError):
            look_at_way("away")


if __name__ == "__main__":
    unittest.main()
