"""Point 15: the worth of groupings by likings, the best ones and calm ones."""

import unittest
from itertools import combinations, product

from groupdeeds.errors import BadCount, BadLikings
from groupdeeds.likings import best_grouping, best_of_lots, calm_ones, climb, is_calm, shows_best_grouping, worth
from tests.helpers import ANY_VALUES, SIZES, Case, bad_counts, bad_sizes, no_groupings, plain_groupings, plain_step
from tests.helpers import plain_steps
from tests.arguments import PAIR_NUMBERS, bad_likings, some_likings

GOOD, APART, ALL = ((0, 1), (2,)), ((0,), (1,), (2,)), ((0, 1, 2),)


def liked(size, likings):
    """Return the liking of each two people, in whatever order they are named."""
    pairs = list(combinations(range(size), 2))
    found = dict(zip(pairs, likings, strict=True))
    return {**found, **{(other, one): found[one, other] for one, other in pairs}}


def plain_worth(grouping, likings):
    size = sum(len(lot) for lot in grouping)
    told = liked(size, likings)
    return sum(told[one, other] for lot in grouping for one in lot for other in lot if one < other)


def plain_calm(grouping, likings):
    size = sum(len(lot) for lot in grouping)
    told = liked(size, likings)
    for lot in grouping:
        for one in lot:
            if sum(told[one, other] for other in lot if other != one) < 0:
                return False
    for lot, other in combinations(grouping, 2):
        if sum(told[pair] for pair in product(lot, other)) > 0:
            return False
    return True


class Worth(Case):
    def test_example(self):
        got = [worth(GOOD, (4, 1, 1)), best_grouping(3, (4, -1, -1)), best_of_lots(3, (4, -1, -1), 3),
               is_calm(GOOD, (4, -1, -1)), calm_ones(2, (-1,)), climb(APART, (4, -1, -1))]
        self.assertEqual(got, [4, (4, ((0, 1), (2,))), 0, True, (((0,), (1,)),), ((0, 1),)])

    def test_by_pairs(self):
        for size in SIZES:
            for seed in range(7):
                likings = some_likings(size, seed)
                for grouping in plain_groupings(size):
                    self.assertEqual(worth(grouping, likings), plain_worth(grouping, likings))

    def test_which_pair_is_which(self):
        for size in (2, 3, 4, 5, 6):
            for at, pair in enumerate(combinations(range(size), 2)):
                likings = (0,) * at + (7,) + (0,) * (PAIR_NUMBERS[size] - at - 1)
                for grouping in plain_groupings(size)[::5]:
                    together = any(pair[0] in lot and pair[1] in lot for lot in grouping)
                    self.assertEqual(worth(grouping, likings), 7 if together else 0)

    def test_bounds(self):
        for likings, want in (((100,), 100), ((-100,), -100), ((0,), 0)):
            self.assertEqual(worth(((0, 1),), likings), want)
        for wrong in (101, -101):
            self.fails((BadLikings, {}, wrong), worth, ((0, 1),), (wrong,))
        self.assertEqual(worth((tuple(range(6)),), (100,) * 15), 1500)
        self.assertEqual(worth(((0,),), ()), 0)

    def test_bad_arguments(self):
        for size in SIZES:
            one, likings = plain_groupings(size)[-1], some_likings(size, 0)
            for call in (worth, is_calm, climb):
                self.refuses(call, [one, likings], [no_groupings(), bad_likings(size)])
            for call in (best_grouping, calm_ones):
                self.refuses(call, [size, likings], [bad_sizes(), bad_likings(size)])
            self.refuses(shows_best_grouping, [size, likings, None], [bad_sizes(), bad_likings(size), []])
            self.refuses(best_of_lots, [size, likings, 1], [bad_sizes(), bad_likings(size), bad_counts(1, size)])

    def test_numbers_of_likings_of_no_size(self):
        for many in (2, 4, 5, 7):
            for size in SIZES:
                self.fails((BadLikings, {}, many), best_grouping, size, (0,) * many)
                self.fails((BadLikings, {}, many), worth, plain_groupings(size)[0], (0,) * many)


class Best(Case):
    def test_by_all_groupings(self):
        for size in SIZES:
            known = plain_groupings(size)
            for seed in range(28 if size < 5 else 9):
                likings = some_likings(size, seed)
                worths = {one: plain_worth(one, likings) for one in known}
                got = best_grouping(size, likings)
                self.assertEqual([type(got), len(got), type(got[0])], [tuple, 2, int])
                self.assertEqual(got[0], max(worths.values()))
                self.assertEqual(worths[got[1]], got[0])
                for many in range(1, size + 1):
                    want = max(worths[one] for one in known if len(one) == many)
                    self.assertEqual(best_of_lots(size, likings, many), want)

    def test_shows_all_right_ones(self):
        for size in SIZES:
            known = plain_groupings(size)
            for seed in range(14 if size < 5 else 7):
                likings = some_likings(size, seed)
                worths = {one: plain_worth(one, likings) for one in known}
                most = max(worths.values())
                for one in known[seed % 3::1 if size < 5 else 5]:
                    self.assertIs(shows_best_grouping(size, likings, (worths[one], one)), worths[one] == most)
                    self.assertIs(shows_best_grouping(size, likings, (most, one)), worths[one] == most)
                    self.assertIs(shows_best_grouping(size, likings, (most - 1, one)), False)
                    self.assertIs(shows_best_grouping(size, likings, (most + 1, one)), False)
                self.assertIs(shows_best_grouping(size, likings, best_grouping(size, likings)), True)

    def test_several_best_ones(self):
        for one in plain_groupings(4):
            self.assertIs(shows_best_grouping(4, (0,) * 6, (0, one)), True)
        for one in (GOOD, ((0, 2), (1,))):
            self.assertIs(shows_best_grouping(3, (1, 1, -5), (1, one)), True)
        self.assertIs(shows_best_grouping(3, (1, 1, -5), (0, APART)), False)

    def test_near_values(self):
        self.assertIs(shows_best_grouping(3, (1, -1, -1), (1, GOOD)), True)
        self.refuses_last(shows_best_grouping, [3, (1, -1, -1)], [
            (True, GOOD), (0, GOOD), (2, GOOD), (1, APART), (1, ALL), (1, ((0, 2), (1,))), (0, APART), [1, GOOD],
            (1, [(0, 1), (2,)]), (1, ([0, 1], (2,))), (1, ((False, 1), (2,))), (1, ((0, True), (2,))), (1, GOOD, ()),
            (1,), (GOOD, 1), GOOD, 1, None, (1, None), (None, GOOD), ("1", GOOD), (1, ((2,), (0, 1))), (1, ((0, 1),)),
            (1, ((1, 0), (2,))), (1, ((0, 1), (2,), (3,))), (1, ((0, 1), (2,), ())), {1: GOOD}, "1", (1, "0 1 / 2")])
        wrong = [(False, APART), (0, GOOD), (-1, GOOD), (None, APART)]
        self.refuses_last(shows_best_grouping, [3, (-1, -1, -1)], wrong)
        self.assertIs(shows_best_grouping(3, (-1, -1, -1), (0, APART)), True)

    def test_any_value(self):
        for value in ANY_VALUES:
            self.assertIs(shows_best_grouping(3, (4, -1, -1), value), False)
            want = isinstance(value, tuple) and value == (0, ((0,),)) and value[0] is not False
            self.assertIs(shows_best_grouping(1, (), value), want)

    def test_of_lots_at_the_bounds(self):
        for size in SIZES:
            likings = some_likings(size, 0)
            self.assertEqual(best_of_lots(size, likings, 1), sum(likings))
            self.assertEqual(best_of_lots(size, likings, size), 0)
            for many in (0, -1, size + 1, True):
                self.fails((BadCount, {}, many), best_of_lots, size, likings, many)

    def test_size_one(self):
        self.assertEqual([best_grouping(1, ()), best_of_lots(1, (), 1)], [(0, ((0,),)), 0])
        self.assertEqual([is_calm(((0,),), ()), calm_ones(1, ()), climb(((0,),), ())], [True, (((0,),),), ()])


class Calm(Case):
    def test_by_all_groupings(self):
        for size in SIZES:
            for seed in range(28 if size < 5 else 8):
                likings = some_likings(size, seed)
                want = [one for one in plain_groupings(size) if plain_calm(one, likings)]
                self.assertEqual(calm_ones(size, likings), tuple(want))
                for one in plain_groupings(size)[seed % 5::1 if size < 4 else 7]:
                    self.assertIs(is_calm(one, likings), one in want)

    def test_all_small_likings(self):
        for likings in product((-2, -1, 0, 1, 2), repeat=3):
            want = tuple(one for one in plain_groupings(3) if plain_calm(one, likings))
            self.assertEqual(calm_ones(3, likings), want)

    def test_sums_of_nothing(self):
        """A sum of 0 is neither negative nor positive."""
        self.assertEqual(calm_ones(2, (0,)), (((0,), (1,)), ((0, 1),)))
        self.assertIs(is_calm(ALL, (1, -1, 1)), True)
        self.assertIs(is_calm(ALL, (1, -2, 1)), False)
        self.assertIs(is_calm(GOOD, (1, -1, 1)), True)
        self.assertIs(is_calm(GOOD, (1, -1, 2)), False)


class Climb(Case):
    def plain_climb(self, grouping, likings):
        """Return the row step by step: the first of the steps to the greatest worth."""
        size = sum(len(lot) for lot in grouping)
        row = ()
        while True:
            ends = [(plain_worth(plain_step(grouping, step), likings), step) for step in plain_steps(size)]
            most = max(end for end, _ in ends)
            if most <= plain_worth(grouping, likings):
                return row
            step = min(step for end, step in ends if end == most)
            grouping, row = plain_step(grouping, step), row + (step,)

    def test_step_by_step(self):
        for size, turn in ((1, 1), (2, 1), (3, 1), (4, 2), (5, 13), (6, 90)):
            for seed in range(14):
                likings = some_likings(size, seed)
                for grouping in plain_groupings(size)[seed % turn::turn]:
                    self.assertEqual(climb(grouping, likings), self.plain_climb(grouping, likings))

    def test_smallest_of_the_best_steps(self):
        self.assertEqual(climb(APART, (1, 1, -5)), ((0, 1),))
        self.assertEqual(climb(((0, 1),), (-1,)), ((0,),))
        self.assertEqual(climb(APART, (1, 1, 1)), ((0, 1), (0, 2)))
        self.assertEqual(climb(APART, (-1, 2, 2)), ((0, 2), (0, 1)))
        self.assertEqual(climb(ALL, (-1, -1, -1)), ((0,), (1,)))

    def test_as_long_as_the_worth_grows(self):
        self.assertEqual(climb(APART, (0, 0, 0)), ())
        self.assertEqual(climb(ALL, (0, 0, 0)), ())
        self.assertEqual(climb(APART, (-1, -1, -1)), ())
        # A better grouping is there, but not by one step.
        self.assertEqual(climb(((0, 1), (2, 3)), (2, 2, -5, -5, 2, 2)), ())


if __name__ == "__main__":
    unittest.main()
