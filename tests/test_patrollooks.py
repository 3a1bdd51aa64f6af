"""Looks at rounds of patrols (15; 3 g, its second half; 2)."""

import copy
import unittest

from homeslopes.patrollooks import shows_fewest
from homeslopes.patrols import fewest
from tests import plain_rounds
from tests.making import exchanged, odd_things, some_cases, some_looks

HILL = (
    (
        ("up", "lift", "home", "top", 0, 5), ("down", "slope", "top", "home", 9, 3),
        ("bowl", "slope", "top", "hut", 2, 0), ("lane", "path", "hut", "home", 4, 4),
    ),
    "home",
    40,
)
# Of these 0, 1, 3 and 0, 2, 3 can be done by one patrol, 1 and 2 not; 4 is like 0.
LOOKS = (("down", 0), ("down", 8), ("bowl", 9), ("down", 20), ("down", 0))
RIGHT = (((0, 1, 3), (4, 2)), (1, 2))


class ShowsFewest(unittest.TestCase):
    def asks(self, asked, thing, looks=LOOKS, hill=HILL):
        self.assertIs(shows_fewest(hill, looks, thing), asked, thing)
        self.assertIs(plain_rounds.shows_fewest(hill, looks, thing), asked, thing)

    def test_what_is_right(self):
        self.asks(True, RIGHT)
        self.asks(True, (((0, 1, 3), (4, 2)), (0, 4)))
        self.asks(True, (((4, 2), (0, 1, 3)), (1, 2)))
        self.asks(True, (((0, 1), (4, 2, 3)), (1, 2)))
        self.asks(True, (((0, 2), (4, 1, 3)), (0, 4)))
        self.asks(True, fewest(HILL, LOOKS))
        self.asks(True, (((0,),), (0,)), LOOKS[:1])
        self.asks(True, (((0,), (1,)), (0, 1)), LOOKS[1:3])
        self.asks(True, ((), ()), ())

    def test_no_look(self):
        for thing in (((),), ((), (), ()), ((), (0,)), (((0,),), (0,)), (((),), ()), (((),), (0,)), ([], ()), ((), [])):
            self.asks(False, thing, ())

    def test_a_look_left_out(self):
        for rounds in (((1, 3), (4, 2)), ((0, 3), (4, 2)), ((0, 1), (4, 2)), ((0, 1, 3), (2,)), ((0, 1, 3), (4,))):
            self.asks(False, (rounds, (1, 2)))
        self.asks(False, (((0, 1, 3),), (1,)))

    def test_a_look_twice(self):
        for rounds in (((0, 1, 3), (4, 2, 3)), ((0, 1, 3), (0, 2), (4,)), ((0, 1, 3), (4, 2), (2,)),
                       ((0, 1, 1, 3), (4, 2)), ((0, 0, 1, 3), (4, 2)), ((0, 1, 3), (0, 2))):
            for apart in ((1, 2), (0, 1, 2), (1, 2, 4)):
                self.asks(False, (rounds, apart))

    def test_a_look_in_another_round_or_place(self):
        for rounds in (((0, 1, 2), (4, 3)), ((0, 1, 2, 3), (4,)), ((0,), (4, 1, 2, 3)), ((1, 0, 3), (4, 2)),
                       ((0, 3, 1), (4, 2)), ((0, 1, 3), (2, 4)), ((0, 4), (1, 3, 2)), ((0, 4, 1, 3), (2,))):
            self.asks(False, (rounds, (1, 2)))

    def test_in_time_by_a_moment(self):
        for m, asked in ((7, False), (8, True), (9, True)):
            self.asks(asked, (((0, 1),), (0,)), (("down", 0), ("down", m)))
            self.asks(not asked, (((0,), (1,)), (0, 1)), (("down", 0), ("down", m)))

    def test_a_round_more_or_fewer(self):
        self.asks(False, (((0, 1, 3), (4,), (2,)), (1, 2)))
        self.asks(False, (((0, 1, 3), (4,), (2,)), (1, 2, 3)))
        self.asks(False, (((0, 1, 3), (4,), (2,)), (0, 2, 4)))
        self.asks(False, (((0, 1, 3),), (1, 2)))
        self.asks(False, (((0, 1, 3, 4, 2),), (1,)))

    def test_an_empty_round(self):
        for apart in ((1, 2), (0, 1, 2), (0, 4), (1, 2, 3)):
            self.asks(False, (((0, 1, 3), (4, 2), ()), apart))
            self.asks(False, (((), (0, 1, 3), (4, 2)), apart))
        self.asks(False, (((), (0,)), (0,)), LOOKS[:1])

    def test_apart_larger_or_smaller(self):
        for apart in ((), (1,), (2,), (0, 1, 2), (1, 2, 3), (1, 2, 4), (0, 1, 2, 3, 4)):
            self.asks(False, (RIGHT[0], apart))

    def test_apart_not_rising(self):
        for apart in ((2, 1), (4, 0), (1, 1), (2, 2), (1, 2, 2), (1, 1, 2)):
            self.asks(False, (RIGHT[0], apart))

    def test_apart_with_two_that_follow(self):
        for apart in ((0, 1), (0, 2), (0, 3), (1, 3), (1, 4), (2, 3), (2, 4), (3, 4)):
            self.asks(False, (RIGHT[0], apart))
        # The later look may bear the smaller number.
        late = (("down", 20), ("down", 0))
        self.asks(True, (((1, 0),), (0,)), late)
        self.asks(False, (((1,), (0,)), (0, 1)), late)
        self.asks(False, (((0, 1),), (0,)), late)

    def test_numbers_of_no_look(self):
        looks = LOOKS[1:3]
        for rounds, apart in (
            (((0,), (True,)), (0, 1)), (((False,), (1,)), (0, 1)), (((0,), (1,)), (0, True)),
            (((0,), (1,)), (False, 1)),
            (((0,), (2,)), (0, 1)), (((0,), (1,)), (0, 2)), (((-1,), (0,)), (0, 1)), (((0,), (1,)), (-1, 1)),
            (((0,), (-1,)), (0, 1)), (((0,), ("1",)), (0, 1)), (((0,), (None,)), (0, 1)), (((0,), 1), (0, 1)),
        ):
            self.asks(False, (rounds, apart), looks)

    def test_lists_for_tuples(self):
        one, other = RIGHT[0]
        for thing in (list(RIGHT), ([one, other], (1, 2)), ((list(one), other), (1, 2)), (RIGHT[0], [1, 2]),
                      (RIGHT[0], {1, 2}), (RIGHT[0], {1: 2, 2: 3}), (RIGHT[0], range(1, 3)), ((range(0, 1),), (0,))):
            self.asks(False, thing)

    def test_of_anything(self):
        looks = (("down", 0), ("down", 8), ("bowl", 9))
        right = (((0, 1), (2,)), (1, 2))
        self.asks(True, right, looks)
        known = plain_rounds.order(HILL, looks)
        for thing in exchanged(right):
            before = repr(thing)
            told = shows_fewest(HILL, looks, thing)
            self.assertIs(told, plain_rounds.shows_fewest(HILL, looks, thing, known), thing)
            self.assertEqual(repr(thing), before)

    def test_odd_things_alone(self):
        for odd in odd_things():
            for thing in (odd, (RIGHT[0], odd), (odd, RIGHT[1]), ((odd, RIGHT[0][1]), RIGHT[1])):
                self.assertIs(shows_fewest(HILL, LOOKS, thing), False)


class Compared(unittest.TestCase):
    def changed(self, chance, looks, thing):
        """The thing with some numbers of its rounds and of apart moved."""
        rounds, apart = [list(part) for part in thing[0]], set(thing[1])
        for _ in range(chance.choice((0, 1, 1, 2, 3))):
            one, other, at = chance.choice(rounds), chance.choice(rounds), chance.randrange(len(looks))
            what = chance.choice(("moved", "ends", "apart", "swapped", "new", "out"))
            if what == "moved" and one:
                other.insert(chance.randint(0, len(other)), one.pop(chance.randrange(len(one))))
            if what == "ends" and one and other:
                place, to = chance.randrange(len(one)), chance.randrange(len(other))
                one[place:], other[to:] = other[to:], one[place:]
            if what == "apart":
                apart ^= {at}
            if what == "swapped" and apart:
                apart = apart - {chance.choice(sorted(apart))} | {at}
            if what == "new":
                rounds.append([])
            if what == "out":
                rounds = [part for part in rounds if part] or [[]]
        return (tuple(tuple(part) for part in rounds), tuple(sorted(apart)))

    def test_changed_by_chance(self):
        counted = {True: 0, False: 0}
        for chance, hill, pages in some_cases("changed rounds", 250, 30):
            looks = some_looks(chance, hill, chance.randint(1, 9))
            if not looks:
                continue
            kept, known, right = copy.deepcopy(looks), plain_rounds.order(hill, looks), fewest(hill, looks)
            self.assertIs(shows_fewest(hill, looks, right), True)
            for _ in range(12):
                thing = self.changed(chance, looks, right)
                told = shows_fewest(hill, looks, thing)
                self.assertIs(told, plain_rounds.shows_fewest(hill, looks, thing, known), thing)
                self.assertIs(shows_fewest(hill, looks, thing), told)
                counted[told] += 1
            self.assertEqual(looks, kept)
        self.assertGreater(min(counted.values()), 300, counted)

    def test_no_pair_shows_fewer_or_more(self):
        for chance, hill, pages in some_cases("one number", 60, 30):
            looks = some_looks(chance, hill, 6)
            rounds, apart = fewest(hill, looks)
            if len(rounds) > 1:
                self.assertIs(shows_fewest(hill, looks, (rounds, apart[1:])), False)
                self.assertIs(shows_fewest(hill, looks, (rounds[1:], apart[1:])), False)
            if len(rounds) < len(looks):
                alone = tuple((at,) for at in range(len(looks)))
                self.assertIs(shows_fewest(hill, looks, (alone, tuple(range(len(looks))))), False)


if __name__ == "__main__":
    unittest.main()
