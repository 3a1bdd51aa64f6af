"""How patrols move, which look follows which, how few patrols do all looks, which looks are needed (14, 15; 3 g)."""

import copy
import itertools
import random
import unittest

from homeslopes.hills import places
from homeslopes.opening import open_ways
from homeslopes.pages import book_of
from homeslopes.patrols import fewest, follows, moves, needed
from tests import plain, plain_rounds
from tests.making import some_cases, some_hill, some_looks, stretched

UP = ("up", "lift", "home", "top", 0, 5)
DOWN = ("down", "slope", "top", "home", 9, 3)
LANE = ("lane", "path", "home", "hut", 4, 0)
STAIR = ("stair", "path", "hut", "top", 6, 8)
BOWL = ("bowl", "slope", "top", "hut", 2, 0)
RING = ("ring", "slope", "hut", "hut", 7, 7)
ROCK = ("rock", "slope", "top", "far", 0, 0)
HILL = ((UP, DOWN, LANE, STAIR, BOWL, RING, ROCK), "home", 30)


class Moves(unittest.TestCase):
    def test_both_are_one(self):
        for place in places(HILL):
            self.assertEqual(moves(HILL, place, place), 0)
        self.assertEqual(moves((((("a", "path", "top", "top", 3, 3)),), "home", 5), "top", "top"), 0)
        self.assertEqual(moves((((("a", "path", "top", "top", 0, 0)),), "home", 5), "home", "home"), 0)

    def test_one_way(self):
        for walk, ride, asked in ((9, 3, 3), (3, 9, 3), (0, 4, 4), (4, 0, 4), (6, 6, 6), (0, 0, None), (1, 0, 1),
                                  (1000000, 0, 1000000), (0, 1000000, 1000000), (1000000, 999999, 999999)):
            for kind in ("slope", "lift", "path"):
                hill = ((("a", kind, "top", "home", walk, ride),), "home", 5)
                self.assertEqual(moves(hill, "top", "home"), asked)
                self.assertIsNone(moves(hill, "home", "top"))

    def test_the_quickest_of_several(self):
        self.assertEqual(moves(HILL, "home", "top"), 5)
        self.assertEqual(moves(HILL, "hut", "home"), 9)
        self.assertEqual(moves(HILL, "top", "hut"), 2)
        self.assertEqual(moves(HILL, "home", "hut"), 4)
        slower = ((("straight", "path", "a", "d", 10, 10),) + tuple(
            (name, "path", start, end, 3, 0) for name, start, end in (("x", "a", "b"), ("y", "b", "c"), ("z", "c", "d"))
        ), "a", 2)
        self.assertEqual(moves(slower, "a", "d"), 9)
        self.assertIsNone(moves(slower, "d", "a"))

    def test_where_a_patrol_cannot(self):
        for place in ("home", "top", "hut"):
            self.assertIsNone(moves(HILL, place, "far"))
            self.assertIsNone(moves(HILL, "far", place))

    def test_twelve_slow_ways_in_a_row(self):
        spots = "abcdefghijklm"
        ways = tuple(("w" + spot, "lift", spot, spots[at + 1], 1000000, 0) for at, spot in enumerate(spots[:12]))
        for hill in ((ways, "a", 1), (ways[::-1], "a", 1), (ways[6:] + ways[:6], "m", 1)):
            self.assertEqual(moves(hill, "a", "m"), 12000000)
            self.assertEqual(moves(hill, "c", "f"), 3000000)
            self.assertIsNone(moves(hill, "m", "a"))

    def test_all_ways_gone_through(self):
        told = {True: 0, False: 0}
        for chance, hill, pages in some_cases("moves", 150):
            kept = copy.deepcopy(hill)
            for place, to in itertools.product(places(hill), places(hill)):
                asked = plain_rounds.moves(hill, place, to)
                self.assertEqual(moves(hill, place, to), asked)
                self.assertIs(type(asked), type(moves(hill, place, to)))
                told[asked is None] += 1
            self.assertEqual(hill, kept)
        self.assertGreater(min(told.values()), 300, told)

    def test_behind_dark(self):
        self.assertEqual(moves((HILL[0], "home", 1), "hut", "home"), 9)


class Follows(unittest.TestCase):
    def test_in_time_by_a_moment(self):
        # From the end of the one's slope to the start of the other's.
        for one, other, first in (
            (("down", 4), "down", 12), (("down", 0), "bowl", 8), (("bowl", 1), "down", 9), (("bowl", 1), "ring", 3),
            (("ring", 1), "bowl", 14), (("ring", 1), "ring", 8),
        ):
            for m in range(31):
                self.assertIs(follows(HILL, one, (other, m)), m >= first)

    def test_no_look_follows_itself(self):
        for look in (("down", 0), ("down", 30), ("bowl", 3), ("ring", 3)):
            self.assertIs(follows(HILL, look, look), False)

    def test_where_a_patrol_cannot(self):
        hill = ((("a", "slope", "x", "y", 1, 1), ("b", "slope", "z", "x", 1, 1)), "x", 20)
        self.assertIs(follows(hill, ("a", 0), ("b", 20)), False)
        self.assertIs(follows(hill, ("a", 0), ("a", 20)), False)
        self.assertIs(follows(hill, ("b", 0), ("a", 1)), True)
        self.assertIs(follows(hill, ("b", 0), ("a", 0)), False)

    def test_slopes_that_end_behind_dark(self):
        hill = (HILL[0], "home", 8)
        self.assertIs(follows(hill, ("down", 0), ("down", 8)), True)
        self.assertIs(follows(hill, ("down", 8), ("down", 8)), False)
        self.assertIs(follows(hill, ("down", 6), ("ring", 8)), False)
        slow = ((("a", "slope", "x", "x", 1000000, 0),), "x", 1000000)
        self.assertIs(follows(slow, ("a", 0), ("a", 1000000)), True)
        self.assertIs(follows(slow, ("a", 1), ("a", 1000000)), False)

    def test_compared(self):
        told = {True: 0, False: 0}
        for chance, hill, pages in some_cases("follows", 150):
            for look, other in itertools.product(some_looks(chance, hill, 8), repeat=2):
                asked = plain_rounds.follows(hill, look, other)
                self.assertIs(follows(hill, look, other), asked)
                told[asked] += 1
        self.assertGreater(min(told.values()), 300, told)


class Fewest(unittest.TestCase):
    def rounds(self, hill, looks):
        """How many rounds are told; all that is told of them is looked at."""
        told = fewest(hill, looks)
        self.assertIs(plain_rounds.shows_fewest(hill, looks, told), True, (hill, looks, told))
        self.assertEqual(fewest(hill, looks), told)
        return len(told[0])

    def test_no_look(self):
        self.assertEqual(fewest(HILL, ()), ((), ()))

    def test_one_look(self):
        for look in (("down", 0), ("down", 30), ("ring", 4)):
            self.assertEqual(fewest(HILL, (look,)), (((0,),), (0,)))

    def test_alike_ones(self):
        for many in (2, 5, 24):
            rounds, apart = fewest(HILL, (("down", 3),) * many)
            self.assertEqual(sorted(rounds), [(at,) for at in range(many)])
            self.assertEqual(apart, tuple(range(many)))

    def test_one_round(self):
        self.assertEqual(fewest(HILL, (("down", 0), ("down", 8), ("down", 16)))[0], ((0, 1, 2),))
        self.assertEqual(fewest(HILL, (("down", 16), ("down", 0), ("down", 8)))[0], ((1, 2, 0),))
        many = tuple(("down", 8 * at) for at in range(24))
        self.assertEqual(fewest((HILL[0], "home", 200), many)[0], (tuple(range(24)),))
        self.assertEqual(fewest((HILL[0], "home", 200), many[::-1])[0], (tuple(range(23, -1, -1)),))

    def test_a_next_one_is_left_to_another(self):
        # Whoever takes the nearest look leaves one that only they could have done.
        looks = (("down", 0), ("bowl", 0), ("down", 8), ("down", 10))
        self.assertEqual(self.rounds(HILL, looks), 2)
        self.assertEqual(self.rounds(HILL, looks[::-1]), 2)
        for mixed in itertools.permutations(looks):
            self.assertEqual(self.rounds(HILL, mixed), 2)

    def test_all_choices_gone_through(self):
        counted = {}
        for chance, hill, pages in some_cases("fewest", 220, 30):
            looks = some_looks(chance, hill, chance.randint(0, 7))
            told = self.rounds(hill, looks)
            self.assertEqual(told, plain_rounds.fewest_rounds(hill, looks))
            self.assertEqual(told, plain_rounds.most_apart(hill, looks))
            counted[told, len(looks)] = True
        self.assertGreater(len(counted), 20)

    def test_twenty_four(self):
        chance = random.Random("twenty-four")
        counted = set()
        for at in range(60):
            hill = some_hill(chance, chance.choice((10, 40, 150)), 12)
            looks = some_looks(chance, hill, 24)
            counted.add(self.rounds(hill, looks))
        self.assertGreater(len(counted), 6, counted)

    def test_a_long_day(self):
        for chance, hill, pages in some_cases("long looks", 30):
            looks = some_looks(chance, hill, 12)
            k = 1000000 // hill[2]
            long_hill, long_pages = stretched(hill, pages, k)
            long_looks = tuple((s, m * k) for s, m in looks)
            self.assertEqual(self.rounds(long_hill, long_looks), self.rounds(hill, looks))

    def test_nothing_handed_in_is_changed(self):
        for chance, hill, pages in some_cases("kept looks", 10):
            looks = some_looks(chance, hill, 10)
            kept = copy.deepcopy((hill, looks))
            fewest(hill, looks)
            self.assertEqual((hill, looks), kept)


class Needed(unittest.TestCase):
    def test_moments(self):
        self.assertEqual(needed(5, 3, 4), (3,))
        self.assertEqual(needed(5, 3, 8), (3,))
        self.assertEqual(needed(5, 3, 9), (3, 8))
        self.assertEqual(needed(5, 3, 13), (3, 8))
        self.assertEqual(needed(5, 3, 14), (3, 8, 13))
        self.assertEqual(needed(5, 0, 5), (0,))
        self.assertEqual(needed(1, 7, 8), (7,))
        self.assertEqual(needed(1, 7, 10), (7, 8, 9))
        self.assertEqual(needed(1000000, 0, 1000001), (0, 1000000))
        self.assertEqual(needed(1000000, 4, 5), (4,))

    def test_sixty(self):
        for n in (1, 2, 7, 1000):
            self.assertEqual(needed(n, 5, 5 + 60 * n), tuple(5 + n * at for at in range(60)))
            self.assertEqual(len(needed(n, 0, 60 * n - n + 1)), 60)
            self.assertEqual(len(needed(n, 0, 60 * n - n)), 59)

    def holds(self, n, looks, a, b, dark):
        """Whether the slope is open at all moments from a to b - 1."""
        hill = ((("s", "slope", "x", "x", 1, 1),), "x", dark)
        pages = [("look", at, m, "s") for at, m in enumerate(looks)]
        book = book_of(pages + [("rule", 999, 0, "s", (("looked", n),))])
        opened = [open_ways(hill, book, t) == ("s",) for t in range(a, b)]
        self.assertEqual(opened, [plain.opened(hill, book, t) == ("s",) for t in range(a, b)])
        return all(opened)

    def test_all_choices_gone_through(self):
        for n in range(1, 5):
            for a, b in itertools.combinations(range(9), 2):
                told = needed(n, a, b)
                self.assertTrue(all(a <= m < b for m in told))
                self.assertEqual(told, self.latest_of(n, a, b, len(told)))
                fewer = itertools.combinations(range(a, b), len(told) - 1)
                self.assertFalse(any(self.holds(n, looks, a, b, 9) for looks in fewer))

    def latest_of(self, n, a, b, many):
        """Of all choices of so many looks that do, a first, the one whose looks are the latest, each of them."""
        doing = [looks for looks in itertools.combinations(range(a, b), many)
                 if looks[0] == a and self.holds(n, looks, a, b, 9)]
        best = max(doing)
        self.assertTrue(all(m <= late for looks in doing for m, late in zip(looks, best)))
        return best


if __name__ == "__main__":
    unittest.main()
