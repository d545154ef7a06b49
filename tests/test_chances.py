"""Point 11: what is there by chance behind some steps, in the long run, and for the first time."""

import unittest
from fractions import Fraction

from groupdeeds.chances import after_chances, long_chances, mean_first, mean_lots, together_chance
from groupdeeds.errors import TooMany
from tests.helpers import SIZES, Case, bad_counts, bad_groupings, bad_sizes, no_groupings, plain_done, plain_groupings
from tests.helpers import plain_rows, plain_step, plain_steps
from tests.arguments import UNLIKE, as_fraction, as_ratio, bad_people, bad_weights, some_weights

APART, PAIR = ((0,), (1,)), ((0, 1),)
THIRDS = ((1, 3),) * 3


def chances_of_rows(size, weights, many):
    """Return the pairs (row, chance) of all rows of so many steps."""
    chance = {step: Fraction(*weight) for step, weight in zip(plain_steps(size), weights)}
    found = []
    for row in plain_rows(size, many):
        product = Fraction(1)
        for step in row:
            product *= chance[step]
        found.append((row, product))
    return found


def one_step_more(chances, weights):
    """Return the chances of groupings behind one step more."""
    later = {}
    for here in chances:
        size = sum(len(lot) for lot in here)
        for step, weight in zip(plain_steps(size), weights):
            there = plain_step(here, step)
            later[there] = later.get(there, 0) + chances[here] * Fraction(*weight)
    return later


class AfterChances(Case):
    def test_example(self):
        got = [after_chances(APART, THIRDS, 1), long_chances(2, THIRDS), together_chance(2, THIRDS, 0, 1),
               mean_lots(2, THIRDS), mean_first(APART, PAIR, THIRDS)]
        self.assertEqual(got, [((((0,), (1,)), (2, 3)), (((0, 1),), (1, 3))), ((2, 3), (1, 3)), (1, 3), (5, 3), (3, 1)])

    def check_chances(self, grouping, weights, many, want):
        got = after_chances(grouping, weights, many)
        self.assertEqual(got, tuple((one, as_ratio(want[one])) for one in sorted(want)))
        self.assertEqual(sum(as_fraction(self, chance) for _, chance in got), 1)

    def test_all_rows(self):
        for size, most in ((1, 4), (2, 5), (3, 4), (4, 2), (5, 2), (6, 1)):
            for weights in some_weights(size)[::2]:
                for many in range(most + 1):
                    rows = chances_of_rows(size, weights, many)
                    for grouping in plain_groupings(size)[::1 + size * size // 3]:
                        want = {}
                        for row, chance in rows:
                            there = plain_done(grouping, row)
                            want[there] = want.get(there, 0) + chance
                        self.check_chances(grouping, weights, many, want)

    def test_a_step_more_each_time(self):
        for size, starts in ((1, 1), (2, 1), (3, 2), (4, 7), (5, 40), (6, 150)):
            for weights in some_weights(size)[-2:]:
                for grouping in plain_groupings(size)[::starts]:
                    chances = {grouping: Fraction(1)}
                    for many in range(9):
                        self.check_chances(grouping, weights, many, chances)
                        chances = one_step_more(chances, weights) if many < 8 else {}

    def test_only_what_may_be_there(self):
        self.assertEqual(after_chances(PAIR, THIRDS, 0), ((PAIR, (1, 1)),))
        all_alone = ((0,), (1,), (2,), (3,))
        self.assertEqual(len(after_chances(all_alone, UNLIKE[4], 0)), 1)
        self.assertEqual(len(after_chances(all_alone, UNLIKE[4], 1)), 7)
        self.assertEqual(len(after_chances(all_alone, UNLIKE[4], 8)), 15)

    def test_size_one(self):
        for many in (0, 1, 8):
            self.assertEqual(after_chances(((0,),), ((1, 1),), many), ((((0,),), (1, 1)),))

    def test_bottoms_at_the_bound(self):
        most = ((1, 60), (29, 60), (1, 2))
        self.assertEqual(after_chances(APART, most, 1), ((APART, (31, 60)), (PAIR, (29, 60))))

    def test_bad_arguments(self):
        for size in (1, 2, 3, 6):
            good = [plain_groupings(size)[-1], some_weights(size)[0], 0]
            self.refuses(after_chances, good, [no_groupings(), bad_weights(size), bad_counts(0, 8)])


class LongChances(Case):
    def test_come_again_behind_a_step(self):
        for size in (1, 2, 3, 4):
            for weights in some_weights(size):
                got = long_chances(size, weights)
                self.assertIs(type(got), tuple)
                chances = dict(zip(plain_groupings(size), [as_fraction(self, chance) for chance in got], strict=True))
                self.assertEqual(one_step_more(chances, weights), chances)
                self.assertEqual(sum(chances.values()), 1)
                self.assertGreater(min(chances.values()), 0)

    def test_near_to_the_chances_behind_many_steps(self):
        chances = {PAIR: Fraction(1)}
        for _ in range(60):
            chances = one_step_more(chances, UNLIKE[2])
        for one, ratio in zip((APART, PAIR), long_chances(2, UNLIKE[2])):
            self.assertLess(abs(chances[one] - Fraction(*ratio)), Fraction(1, 10 ** 9))

    def test_size_one(self):
        self.assertEqual(long_chances(1, ((1, 1),)), ((1, 1),))
        self.assertEqual([together_chance(1, ((1, 1),), 0, 0), mean_lots(1, ((1, 1),))], [(1, 1), (1, 1)])

    def test_together_and_lots(self):
        for size in (1, 2, 3, 4):
            for weights in some_weights(size)[::2] + [some_weights(size)[-1]]:
                long = [Fraction(*chance) for chance in long_chances(size, weights)]
                pairs = list(zip(plain_groupings(size), long))
                mean = as_fraction(self, mean_lots(size, weights))
                self.assertEqual(mean, sum(len(known) * chance for known, chance in pairs))
                for one in range(size):
                    for other in range(size):
                        both = [chance for known, chance in pairs
                                if any(one in lot and other in lot for lot in known)]
                        got = as_fraction(self, together_chance(size, weights, one, other))
                        self.assertEqual(got, sum(both))
                        self.assertEqual(got == 1, one == other)

    def test_sizes_that_are_too_many(self):
        for size in (5, 6):
            weights = some_weights(size)[0]
            self.fails((TooMany, {"most": 4}, size), long_chances, size, weights)
            self.fails((TooMany, {"most": 4}, size), together_chance, size, weights, 0, size - 1)
            self.fails((TooMany, {"most": 4}, size), together_chance, size, weights, 4, 4)
            self.fails((TooMany, {"most": 4}, size), mean_lots, size, weights)

    def test_bad_arguments(self):
        for size in (1, 3, 4, 5, 6):
            weights = some_weights(size)[0]
            for call in (long_chances, mean_lots):
                self.refuses(call, [size, weights], [bad_sizes(), bad_weights(size)])
            people = bad_people(size)
            self.refuses(together_chance, [size, weights, 0, 0], [bad_sizes(), bad_weights(size), people, people])


class MeanFirst(Case):
    def check_means(self, size, goal, weights):
        """Hold that the mean from here is 1 and the mean from what comes next."""
        known = plain_groupings(size)
        means = {one: as_fraction(self, mean_first(one, goal, weights)) for one in known}
        self.assertEqual(means[goal], 0)
        for here in known:
            if here != goal:
                ends = [means[plain_step(here, step)] for step in plain_steps(size)]
                self.assertEqual(means[here], 1 + sum(Fraction(*one) * end for one, end in zip(weights, ends)))

    def test_by_what_comes_next(self):
        for size in (1, 2, 3, 4):
            for weights in some_weights(size)[::1 if size < 4 else 5]:
                for goal in plain_groupings(size)[::1 if size < 4 else 6]:
                    self.check_means(size, goal, weights)

    def test_start_is_the_goal(self):
        for size in (1, 2, 3, 4):
            for one in plain_groupings(size)[::3]:
                self.assertEqual(mean_first(one, one, some_weights(size)[0]), (0, 1))

    def test_whole_means(self):
        self.assertEqual(mean_first(PAIR, APART, THIRDS), (3, 2))
        self.assertEqual(mean_first(APART, PAIR, ((1, 60), (29, 60), (1, 2))), (60, 29))

    def test_too_many(self):
        for size in (5, 6):
            known, weights = plain_groupings(size), some_weights(size)[0]
            self.fails((TooMany, {"most": 4}, size), mean_first, known[0], known[-1], weights)
            self.fails((TooMany, {"most": 4}, size), mean_first, known[3], known[3], weights)

    def test_bad_arguments(self):
        for size in (1, 2, 4, 5):
            one = plain_groupings(size)[-1]
            bads = [no_groupings(), bad_groupings(size), bad_weights(size)]
            self.refuses(mean_first, [one, one, some_weights(size)[1]], bads)


class Weights(Case):
    def test_all_kinds_are_taken(self):
        for size in SIZES:
            for weights in some_weights(size):
                self.assertEqual(after_chances(plain_groupings(size)[0], weights, 0)[0][1], (1, 1))


if __name__ == "__main__":
    unittest.main()
