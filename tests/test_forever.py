"""Point 26: the best mean of worth less price, and papers for it."""

import unittest
from fractions import Fraction
from itertools import product
from random import Random

from groupdeeds.errors import BadLikings, BadPrices, TooMany
from groupdeeds.forever import best_mean, mean_paper, shows_best_mean, shows_mean_paper
from tests.helpers import ANY_VALUES, HUGE, Case, bad_prices, plain_done, plain_groupings, plain_rows, plain_step
from tests.helpers import plain_steps
from tests.test_likings import plain_worth
from tests.test_nets import cheap_prices, row_total
from tests.test_prices import costs_of, some_prices
from tests.arguments import PAIR_NUMBERS, as_fraction, as_ratio, bad_numbers_of_likings, some_likings

APART, PAIR, ONLY = ((0,), (1,)), ((0, 1),), ((0,),)
DEAR = ((1, 1), (2,))


def gains(size, likings, prices):
    """Return a dict with, for each two groupings, the most that a step from the one to the other brings."""
    costs, found = costs_of(size, prices), {}
    for one in plain_groupings(size):
        for step in plain_steps(size):
            there = plain_step(one, step)
            gain = plain_worth(there, likings) - costs[step]
            found[one, there] = max(gain, found.get((one, there), gain))
    return found


def most_mean(size, likings, prices):
    """Return the greatest mean of all rounds of groupings, of at most as many steps as there are groupings."""
    known, gain = plain_groupings(size), gains(size, likings, prices)
    means = []
    for many in range(1, len(known) + 1):
        for way in product(known, repeat=many):
            if min(way) == way[0]:
                legs = list(zip(way, way[1:] + way[:1]))
                if all(leg in gain for leg in legs):
                    means.append(Fraction(sum(gain[leg] for leg in legs), many))
    return max(means)


def is_paper(size, likings, prices, mean, numbers):
    known = plain_groupings(size)
    told = dict(zip(known, numbers, strict=True))
    return all(told[one] >= told[there] + gain - mean for (one, there), gain in gains(size, likings, prices).items())


def tried():
    """Return triples (size, likings, prices) of all sizes that are taken."""
    found = []
    for size, seeds in ((1, 8), (2, 16), (3, 14)):
        for seed in range(seeds):
            prices = (some_prices if seed % 2 else cheap_prices)(size, seed)
            found.append((size, some_likings(size, seed // 2), prices))
    return found


class BestMean(Case):
    def test_example(self):
        got = [best_mean((4,), DEAR)[0], shows_best_mean((4,), DEAR, ((2, 1), PAIR, ((0, 1),))),
               shows_mean_paper((), ((2,), ()), ((-2, 1), ((0, 1),)))]
        self.assertEqual(got, [(2, 1), True, True])

    def check_mean(self, size, likings, prices, want):
        got = best_mean(likings, prices)
        self.assertEqual([type(got), len(got), type(got[2])], [tuple, 3, tuple])
        mean, grouping, row = got
        self.assertEqual(as_fraction(self, mean), want)
        self.assertIn(grouping, plain_groupings(size))
        self.assertTrue(1 <= len(row) <= 40)
        self.assertTrue(all(step in plain_steps(size) for step in row))
        self.assertEqual(plain_done(grouping, row), grouping)
        self.assertEqual(Fraction(row_total(grouping, row, likings, prices), len(row)), want)
        self.assertIs(shows_best_mean(likings, prices, got), True)

    def test_by_all_rounds(self):
        for size, likings, prices in tried():
            self.check_mean(size, likings, prices, most_mean(size, likings, prices))

    def test_by_all_rows(self):
        for size, most in ((1, 5), (2, 5), (3, 3)):
            for seed in range(6 if size < 3 else 3):
                likings, prices = some_likings(size, seed), cheap_prices(size, seed)
                best = as_fraction(self, best_mean(likings, prices)[0])
                for many in range(1, most + 1):
                    for row in plain_rows(size, many):
                        for one in plain_groupings(size):
                            if plain_done(one, row) == one:
                                mean = Fraction(row_total(one, row, likings, prices), many)
                                self.assertLessEqual(mean, best)

    def test_by_hand(self):
        self.check_mean(1, (), ((7,), ()), Fraction(-7))
        self.check_mean(1, (), ((0,), ()), Fraction(0))
        self.check_mean(2, (-100,), ((1000, 1000), (1000,)), Fraction(-1000))
        self.check_mean(2, (100,), ((0, 0), (0,)), Fraction(100))
        self.check_mean(2, (-4,), ((3, 1), (0,)), Fraction(-1))

    def test_no_mean_is_a_fraction(self):
        """A step done again brings the same again, so the best mean is always that of some single step."""
        for seed in range(60):
            mixed = Random(seed)
            likings = tuple(mixed.randint(-20, 20) for _ in range(3))
            prices = tuple(tuple(mixed.randint(0, 40) for _ in range(3)) for _ in range(2))
            mean = best_mean(likings, prices)[0]
            self.assertEqual(mean, (max(gains(3, likings, prices).values()), 1))
            if seed % 6 == 0:
                self.check_mean(3, likings, prices, most_mean(3, likings, prices))

    def test_rows_with_a_mean_that_is_a_fraction(self):
        """Their mean is right, but it is not the greatest one."""
        row = ((0,), (0, 1))
        self.assertEqual(row_total(PAIR, row, (4,), DEAR), 1)
        for mean in ((1, 2), (2, 1), (1, 1), (3, 2)):
            self.assertIs(shows_best_mean((4,), DEAR, (mean, PAIR, row)), False)
            self.assertIs(shows_mean_paper((4,), DEAR, (mean, ((0, 1), (0, 1)))), mean == (2, 1))

    def test_other_rounds_of_the_same_mean(self):
        free = ((0, 0), (0,))
        for grouping in (APART, PAIR):
            for many in (1, 2, 3, 39, 40, 41):
                row = (((0,),) if grouping == APART else ((0, 1),)) * many
                self.assertIs(shows_best_mean((0,), free, ((0, 1), grouping, row)), many <= 40)
        self.assertIs(shows_best_mean((0,), free, ((0, 1), APART, ((0, 1), (1,)))), True)
        self.assertIs(shows_best_mean((0,), free, ((0, 1), PAIR, ((1,), (0,), (0, 1)))), True)
        self.assertIs(shows_best_mean((0,), free, ((0, 1), APART, ((0, 1),))), False)
        self.assertIs(shows_best_mean((0,), free, ((0, 1), APART, ())), False)

    def test_shows_of_all_short_rows(self):
        for size, most, seeds in ((1, 4, 4), (2, 4, 8), (3, 2, 6)):
            for seed in range(seeds):
                likings, prices = some_likings(size, seed), cheap_prices(size, seed)
                best = most_mean(size, likings, prices)
                for many in range(1, most + 1):
                    for row in plain_rows(size, many):
                        for one in plain_groupings(size):
                            mean = Fraction(row_total(one, row, likings, prices), many)
                            want = plain_done(one, row) == one and mean == best
                            self.assertIs(shows_best_mean(likings, prices, (as_ratio(mean), one, row)), want)
                            self.assertIs(shows_best_mean(likings, prices, (as_ratio(best), one, row)), want)

    def test_near_values(self):
        self.assertIs(shows_best_mean((4,), DEAR, ((2, 1), PAIR, ((0, 1),))), True)
        self.refuses_last(shows_best_mean, [(4,), DEAR], [
            ((4, 2), PAIR, ((0, 1),)), ((-2, -1), PAIR, ((0, 1),)), (2, PAIR, ((0, 1),)), ((2, 0), PAIR, ((0, 1),)),
            ((3, 1), PAIR, ((0, 1),)), ((1, 1), PAIR, ((0, 1),)), ((2, True), PAIR, ((0, 1),)), ([2, 1], PAIR, ((0, 1),)),
            ((2,), PAIR, ((0, 1),)), ((2, 1, 1), PAIR, ((0, 1),)), ((2, 1), APART, ((0, 1),)), ((2, 1), PAIR, ((0,),)),
            ((2, 1), PAIR, ()), ((2, 1), PAIR, ((0, 1), (0,))), ((2, 1), PAIR, ((0,), (0, 1))), ((2, 1), PAIR, [(0, 1)]),
            ((2, 1), PAIR, ([0, 1],)), ((2, 1), PAIR, ((1, 0),)), ((2, 1), PAIR, ((False, 1),)), ((2, 1), list(PAIR), ((0, 1),)),
            ((2, 1), PAIR, ((0, 2),)), ((2, 1), PAIR, (None,)), ((2, 1), PAIR, None), ((2, 1), None, ((0, 1),)),
            (None, PAIR, ((0, 1),)), ((2, 1), PAIR), ((2, 1), PAIR, ((0, 1),), 0), [(2, 1), PAIR, ((0, 1),)], None, 2,
            ((2, 1), ONLY, ((0, 1),)), ((2, 1), ((0, 1), (2,)), ((0, 1),)), ("21", PAIR, ((0, 1),)), ((2, 1), PAIR, (0, 1)),
            ((HUGE, 1), PAIR, ((0, 1),)), {0: (2, 1), 1: PAIR, 2: ((0, 1),)}, (((2,), 1), PAIR, ((0, 1),))])
        self.assertIs(shows_best_mean((), ((1,), ()), ((-1, 1), ONLY, ((0,),))), True)
        self.refuses_last(shows_best_mean, [(), ((1,), ())], [((-1, True), ONLY, ((0,),)), ((1, -1), ONLY, ((0,),)),
                                                              ((-1, 1), ((False,),), ((0,),)), ((-2, 2), ONLY, ((0,), (0,)))])
        self.refuses_last(shows_best_mean, [(), ((0,), ())], [((0, 2), ONLY, ((0,),)), ((False, 1), ONLY, ((0,),)),
                                                              ((0, -1), ONLY, ((0,),)), ((0, 0), ONLY, ((0,),))])

    def test_any_value(self):
        for value in ANY_VALUES:
            self.assertIs(shows_best_mean((4,), DEAR, value), False)
            self.assertIs(shows_mean_paper((4,), DEAR, value), False)

    def test_bad_arguments(self):
        for size in (1, 2, 3):
            good = [some_likings(size, 0), some_prices(size, 2)]
            bads = [bad_numbers_of_likings(), bad_prices(size)]
            for call in (best_mean, mean_paper):
                self.refuses(call, good, bads)
            for call in (shows_best_mean, shows_mean_paper):
                self.refuses(call, good + [None], bads + [[]])

    def test_too_many_people(self):
        for size in (4, 5, 6):
            likings, prices = some_likings(size, 0), some_prices(size, 2)
            for call, more in ((best_mean, ()), (mean_paper, ()), (shows_best_mean, (None,)), (shows_mean_paper, (None,))):
                self.fails((TooMany, {"most": 3}, None), call, likings, prices, *more)
                self.fails((BadLikings, {}, None), call, likings[:-1] + (101,), prices, *more)
                self.fails((BadLikings, {}, None), call, likings[:-1] + (True,), None, *more)
                for bad in bad_prices(size)[::5]:
                    self.fails(bad, call, likings, bad[2], *more)
                self.fails((BadPrices, {}, None), call, likings, some_prices(3, 0), *more)
                self.fails((BadPrices, {}, None), call, some_likings(3, 0), prices, *more)


class Papers(Case):
    def test_by_every_grouping_and_step(self):
        for size, likings, prices in tried():
            got = mean_paper(likings, prices)
            self.assertEqual([type(got), len(got), type(got[1])], [tuple, 2, tuple])
            self.assertEqual(got[0], best_mean(likings, prices)[0])
            mean, numbers = as_fraction(self, got[0]), [as_fraction(self, number) for number in got[1]]
            self.assertTrue(is_paper(size, likings, prices, mean, numbers))
            self.assertIs(shows_mean_paper(likings, prices, got), True)

    def test_any_ratio_added_to_all(self):
        for size, likings, prices in tried()[::2]:
            mean, numbers = mean_paper(likings, prices)
            for more in (Fraction(1), Fraction(-7, 3), Fraction(10 ** 30, 7), Fraction(-1000)):
                value = (mean, tuple(as_ratio(Fraction(*number) + more) for number in numbers))
                self.assertIs(shows_mean_paper(likings, prices, value), True)

    def test_one_number_changed(self):
        for size, likings, prices in tried():
            mean, numbers = mean_paper(likings, prices)
            for at in range(len(numbers)):
                for more in (Fraction(-1000), Fraction(-1), Fraction(-1, 3), Fraction(1, 2), Fraction(1), Fraction(2000)):
                    changed = [Fraction(*number) for number in numbers]
                    changed[at] += more
                    want = is_paper(size, likings, prices, Fraction(*mean), changed)
                    value = (mean, tuple(as_ratio(number) for number in changed))
                    self.assertIs(shows_mean_paper(likings, prices, value), want)

    def test_other_means(self):
        """Numbers that would do for a greater mean do not show it."""
        for size, likings, prices in tried()[::3]:
            mean, numbers = mean_paper(likings, prices)
            for more in (Fraction(-1), Fraction(-1, 60), Fraction(1, 60), Fraction(1), Fraction(1000)):
                value = (as_ratio(Fraction(*mean) + more), numbers)
                self.assertIs(shows_mean_paper(likings, prices, value), False)

    def test_size_one(self):
        for price in (0, 2, 1000):
            prices = ((price,), ())
            self.assertEqual(best_mean((), prices), ((-price, 1), ONLY, best_mean((), prices)[2]))
            self.assertEqual(mean_paper((), prices)[0], (-price, 1))
            for number in ((0, 1), (5, 1), (-1, 3)):
                self.assertIs(shows_mean_paper((), prices, ((-price, 1), (number,))), True)

    def test_near_values(self):
        likings, prices = (4,), DEAR
        self.assertEqual(mean_paper(likings, prices)[0], (2, 1))
        self.assertIs(shows_mean_paper(likings, prices, ((2, 1), ((0, 1), (0, 1)))), True)
        self.assertIs(shows_mean_paper(likings, prices, ((2, 1), ((5, 2), (5, 2)))), True)
        self.refuses_last(shows_mean_paper, [likings, prices], [
            ((4, 2), ((0, 1), (0, 1))), ((2, 1), ((0, 2), (0, 1))), ((2, 1), ((0, 1), (0, -1))), ((2, 1), ((0, 0), (0, 1))),
            ((2, 1), ((False, 1), (0, 1))), ((2, 1), ((0, True), (0, 1))), ((2, 1), [(0, 1), (0, 1)]), ((2, 1), ((0, 1),)),
            [(2, 1), ((0, 1), (0, 1))], ((2, 1), ((0, 1),) * 3), ((2, 1), ([0, 1], (0, 1))), ((2, True), ((0, 1), (0, 1))),
            (2, ((0, 1), (0, 1))), ((2, 1), (0, 0)), ((2, 1), None), (None, ((0, 1), (0, 1))), ((2, 1), ((0, 1), None)),
            ((2, 1), ((0, 1), (0, 1)), 0), ((2, 1),), (), None, 2, ((1, 1), ((0, 1), (0, 1))), ((3, 1), ((0, 1), (0, 1))),
            ((2, 1), ((-1, 1), (0, 1))), ((2, 1), ((4, 2), (2, 1))), ((2, 1), ("01", "01")), ((-2, -1), ((0, 1), (0, 1))),
            ((2, 1), ((0, 1), (4, 1))), {0: (2, 1)}, ((2, 1), {0: (0, 1), 1: (0, 1)}), (((2, 1), (0, 1)), (0, 1))])

    def test_sizes_of_the_numbers(self):
        for size, many in ((1, 1), (2, 2), (3, 5)):
            likings, prices = (0,) * PAIR_NUMBERS[size], ((0,) * size, (0,) * PAIR_NUMBERS[size])
            for length in range(8):
                value = ((0, 1), ((0, 1),) * length)
                self.assertIs(shows_mean_paper(likings, prices, value), length == many)


if __name__ == "__main__":
    unittest.main()
