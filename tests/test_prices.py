"""Point 10: cheapest rows, and papers for what cannot be cheaper."""

import unittest
from random import Random

from groupdeeds.groupings import groupings
from groupdeeds.prices import cheap_row, shows_cheap_row, shows_price_paper, worths
from tests.helpers import ANY_VALUES, HUGE, SIZES, Case, bad_groupings, bad_prices, no_groupings, plain_done
from tests.helpers import plain_groupings, plain_rows, plain_step, plain_steps

APART, PAIR = ((0,), (1,)), ((0, 1),)
GOOD, ALL = ((0, 1), (2,)), ((0, 1, 2),)
PLAIN = ((1, 1), (2,))


def costs_of(size, prices):
    """Return the price of each step, told apart by its length and its place among those of its kind."""
    found = {}
    for many in (1, 2):
        kind = [step for step in plain_steps(size) if len(step) == many]
        found.update({step: prices[many - 1][at] for at, step in enumerate(kind)})
    return found


def least_prices(size, goal, prices):
    """Return the least price from each grouping: better ones are looked for as long as there are any."""
    costs = costs_of(size, prices)
    known = plain_groupings(size)
    ends = {one: [(costs[step], plain_step(one, step)) for step in costs] for one in known}
    least = {one: 0 if one == goal else 10 ** 9 for one in known}
    while True:
        better = {one: min([least[one]] + [cost + least[there] for cost, there in ends[one]]) for one in known}
        if better == least:
            return least
        least = better


def some_prices(size, seed):
    """Return prices of a size: those of all kinds, many of 0, the least and the greatest ones."""
    mixed = Random(seed)
    kinds = [(0, 0, 0, 1, 5), (0, 1000), (1, 2, 3), tuple(range(1001)), (7,), (0,), (1000,), (0, 1, 1000)]
    kind = kinds[seed % len(kinds)]
    many = size * (size - 1) // 2
    return (tuple(mixed.choice(kind) for _ in range(size)), tuple(mixed.choice(kind) for _ in range(many)))


class CheapRows(Case):
    def test_example(self):
        got = [cheap_row(GOOD, ALL, ((1, 1, 1), (5, 3, 4))), worths(PAIR, PLAIN),
               shows_price_paper(APART, PAIR, PLAIN, (2, 0))]
        self.assertEqual(got, [(3, ((0, 2),)), (2, 0), True])

    def check_row(self, start, goal, prices, least):
        size = sum(len(lot) for lot in goal)
        value = cheap_row(start, goal, prices)
        self.assertEqual([type(value), len(value), type(value[0]), type(value[1])], [tuple, 2, int, tuple])
        price, row = value
        costs = costs_of(size, prices)
        self.assertLessEqual(len(row), 300)
        self.assertEqual(price, least)
        self.assertEqual(sum(costs[step] for step in row), price)
        self.assertEqual(plain_done(start, row), goal)
        self.assertIs(shows_cheap_row(start, goal, prices, value), True)

    def test_by_the_prices_of_all_steps(self):
        for size in SIZES:
            known = plain_groupings(size)
            for seed in range(16 if size < 5 else 8):
                prices = some_prices(size, seed)
                goal = known[seed * 5 % len(known)]
                least = least_prices(size, goal, prices)
                self.assertEqual(worths(goal, prices), tuple(least[one] for one in known))
                for start in known[seed % 3::1 if size < 4 else 1 + len(known) // 4]:
                    self.check_row(start, goal, prices, least[start])

    def test_all_pairs_of_three_people(self):
        prices = ((4, 0, 9), (2, 7, 1))
        for goal in plain_groupings(3):
            least = least_prices(3, goal, prices)
            for start in plain_groupings(3):
                self.check_row(start, goal, prices, least[start])

    def test_price_of_each_step(self):
        """Each step is the cheapest one where it alone is cheap."""
        for size in (2, 3, 4, 6):
            steps = plain_steps(size)
            for cheap in steps:
                costs = {step: 1000 for step in steps}
                costs[cheap] = 3
                prices = tuple(tuple(costs[step] for step in steps if len(step) == many) for many in (1, 2))
                company = cheap if len(cheap) == 2 else (min(cheap[0], (cheap[0] + 1) % size),
                                                         max(cheap[0], (cheap[0] + 1) % size))
                rest = [(person,) for person in range(size) if person not in company]
                joined = tuple(sorted(rest + [company]))
                alone = tuple((person,) for person in range(size))
                start, goal = (alone, joined) if len(cheap) == 2 else (joined, alone)
                self.assertEqual(cheap_row(start, goal, prices), (3, (cheap,)))

    def test_a_cheap_way_round(self):
        prices = ((0, 0, 0), (1, 1000, 1))
        self.assertEqual(cheap_row(((0,), (1,), (2,)), ((0, 2), (1,)), prices)[0], 2)
        self.assertEqual(worths(((0, 2), (1,)), prices), (2, 1, 1, 0, 0))

    def test_long_ways(self):
        """Prices by which a cheapest row needs many steps."""
        prices = ((3, 1, 300, 100, 1, 1000), (3, 100, 3, 1000, 0, 2, 1, 1, 300, 1000, 300, 30, 1, 1000, 1))
        known = plain_groupings(6)
        for goal in known[::29]:
            least = least_prices(6, goal, prices)
            for start in known[::41]:
                self.check_row(start, goal, prices, least[start])

    def test_ends(self):
        nothing, most = ((0, 0), (0,)), ((1000, 1000), (1000,))
        self.assertEqual([cheap_row(PAIR, APART, nothing)[0], cheap_row(PAIR, APART, most)[0]], [0, 1000])
        self.assertEqual([worths(APART, most), worths(PAIR, nothing)], [(0, 1000), (0, 0)])
        for start in plain_groupings(3):
            self.assertEqual(cheap_row(start, start, ((1,) * 3, (1,) * 3)), (0, ()))
            self.check_row(start, start, ((0,) * 3, (0,) * 3), 0)

    def test_size_one(self):
        only = ((0,),)
        for price in (0, 5, 1000):
            self.assertEqual(worths(only, ((price,), ())), (0,))
            self.assertEqual(cheap_row(only, only, ((price,), ()))[0], 0)
            self.assertIs(shows_cheap_row(only, only, ((price,), ()), (0, ((0,),))), price == 0)
            self.assertIs(shows_price_paper(only, only, ((price,), ()), (0,)), True)
            self.assertIs(shows_price_paper(only, only, ((price,), ()), (1,)), False)

    def test_bad_arguments(self):
        for size in (1, 2, 3):
            grouping, prices = plain_groupings(size)[0], some_prices(size, 2)
            both = [no_groupings(), bad_groupings(size)]
            self.refuses(cheap_row, [grouping, grouping, prices], both + [bad_prices(size)])
            self.refuses(worths, [grouping, prices], [no_groupings(), bad_prices(size)])
            for call in (shows_cheap_row, shows_price_paper):
                self.refuses(call, [grouping, grouping, prices, None], both + [bad_prices(size), []])

    def test_prices_at_the_bounds(self):
        for price in (0, 1000):
            self.assertEqual(worths(APART, ((price, price), (price,))), (0, price))


class ShowsCheapRow(Case):
    def test_all_short_rows(self):
        for size, most, seed in ((2, 4, 2), (2, 4, 0), (3, 3, 2), (3, 3, 0), (3, 3, 7)):
            prices = some_prices(size, seed)
            costs = costs_of(size, prices)
            rows = [row for many in range(most + 1) for row in plain_rows(size, many)]
            for goal in plain_groupings(size):
                least = least_prices(size, goal, prices)
                for start in plain_groupings(size)[::2]:
                    for row in rows[::1 if size == 2 else 5]:
                        price = sum(costs[step] for step in row)
                        want = price == least[start] and plain_done(start, row) == goal
                        self.assertIs(shows_cheap_row(start, goal, prices, (price, row)), want)

    def test_longer_rows_of_the_same_worth(self):
        free = ((0, 0, 0), (1, 1, 1))
        for many, want in ((0, True), (1, True), (39, True), (40, True), (299, True), (300, False), (400, False)):
            self.assertIs(shows_cheap_row(GOOD, ALL, free, (1, ((2,),) * many + ((0, 2),))), want)
        self.assertIs(shows_cheap_row(GOOD, GOOD, free, (0, ((2,),) * 300)), True)
        self.assertIs(shows_cheap_row(GOOD, GOOD, free, (0, ((2,),) * 301)), False)

    def test_near_values(self):
        prices = ((1, 1, 1), (5, 1, 4))
        self.assertIs(shows_cheap_row(GOOD, ALL, prices, (1, ((0, 2),))), True)
        self.refuses_last(shows_cheap_row, [GOOD, ALL, prices], [
            (True, ((0, 2),)), (2, ((0, 2),)), (0, ((0, 2),)), (4, ((1, 2),)), (1, ((1, 2),)), (1, ((0, 1),)),
            (1, ((2,),)), (2, ((2,), (0, 2))), (1, ((2,), (0, 2))), [1, ((0, 2),)], (1, [(0, 2)]), (1, ([0, 2],)),
            (1, ((0, 2),), ()), (1,), (((0, 2),), 1), (1, (0, 2)), (1, ((2, 0),)), (1, ((False, 2),)), None, (1, None),
            (None, ((0, 2),)), ("1", ((0, 2),)), (1, ((0, 3),)), (1, ((0, 2), None)), (1, ()), (-1, ((0, 2),))])

    def test_any_value(self):
        for value in ANY_VALUES:
            self.assertIs(shows_cheap_row(GOOD, ALL, ((1, 1, 1), (5, 3, 4)), value), False)
            want = isinstance(value, tuple) and value == (0, ()) and value[0] is not False
            self.assertIs(shows_cheap_row(ALL, ALL, ((1, 1, 1), (5, 3, 4)), value), want)


class ShowsPricePaper(Case):
    def is_paper(self, start, goal, prices, numbers):
        size = sum(len(lot) for lot in goal)
        costs = costs_of(size, prices)
        told = dict(zip(plain_groupings(size), numbers))
        if told[goal] != 0 or told[start] != least_prices(size, goal, prices)[start]:
            return False
        return all(costs[step] >= told[one] - told[plain_step(one, step)] for one in told for step in costs)

    def test_least_prices_are_a_paper(self):
        for size in SIZES:
            known = groupings(size)
            for seed in range(8 if size < 5 else 2):
                prices, goal = some_prices(size, seed), known[seed * 3 % len(known)]
                numbers = worths(goal, prices)
                for start in known[::1 + len(known) // 5]:
                    self.assertIs(shows_price_paper(start, goal, prices, numbers), True)

    def test_one_number_changed(self):
        mixed = Random(3)
        for size in (2, 3, 4):
            known = groupings(size)
            for seed in range(8):
                prices, goal, start = some_prices(size, seed), mixed.choice(known), mixed.choice(known)
                numbers = worths(goal, prices)
                for at in range(len(known)):
                    for more in (-1000, -2, -1, 1, 2):
                        value = numbers[:at] + (numbers[at] + more,) + numbers[at + 1:]
                        want = self.is_paper(start, goal, prices, value)
                        self.assertIs(shows_price_paper(start, goal, prices, value), want)

    def test_other_papers(self):
        """Numbers may be less than the least prices, also negative, where no step is against it."""
        prices = ((2, 2, 2), (3, 3, 3))
        goal, start = ((0,), (1,), (2,)), GOOD
        self.assertEqual(worths(goal, prices), (0, 2, 2, 4, 2))
        for value, want in (((0, 2, 2, 4, 2), True), ((0, 2, 2, 3, 1), True), ((0, 0, 2, 1, -1), True),
                            ((0, 2, 2, -1, 2), True), ((0, 2, 2, -2, 2), False), ((0, 2, 2, 5, 2), False),
                            ((0, 2, 2, 4, 1), False), ((0, 2, 1, 3, 2), False), ((1, 2, 2, 4, 2), False)):
            self.assertIs(shows_price_paper(start, goal, prices, value), want, value)
            self.assertIs(self.is_paper(start, goal, prices, value), want, value)

    def test_near_values(self):
        self.refuses_last(shows_price_paper, [APART, PAIR, ((1, 1), (1,))], [
            (True, 0), (1, False), [1, 0], (1,), (1, 0, 0), (0, 0), (2, 0), (1, 1), (0, 1), (1, None), None, ("1", 0),
            ((1,), 0), (-1, 0), (1, -1), (), (HUGE, 0), {0: 1}, "10"])
        self.assertIs(shows_price_paper(APART, PAIR, ((1, 1), (1,)), (1, 0)), True)
        self.refuses_last(shows_price_paper, [PAIR, PAIR, ((0, 0), (0,))], [(False, 0), (0, False), (1, 0), (0, 1)])

    def test_start_is_the_goal(self):
        prices = ((5, 5), (7,))
        for value, want in (((7, 0), True), ((0, 0), True), ((-5, 0), True), ((-6, 0), False), ((8, 0), False)):
            self.assertIs(shows_price_paper(PAIR, PAIR, prices, value), want)

    def test_any_value(self):
        for value in ANY_VALUES:
            self.assertIs(shows_price_paper(GOOD, ALL, ((1, 1, 1), (5, 3, 4)), value), False)


if __name__ == "__main__":
    unittest.main()
