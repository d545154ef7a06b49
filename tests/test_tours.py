"""Point 25: cheapest tours past several groupings, and the order of the stops."""

import unittest
from heapq import heappop, heappush
from itertools import permutations
from random import Random

from groupdeeds.errors import BadStops
from groupdeeds.prices import cheap_row, worths
from groupdeeds.tours import cheap_tour, shows_cheap_tour, tour_order
from tests.helpers import ANY_VALUES, SIZES, Case, bad_prices, no_groupings, plain_groupings, plain_rows, plain_step
from tests.helpers import plain_steps
from tests.test_prices import costs_of, some_prices
from tests.arguments import bad_many

GOOD, OTHER, APART, ALL = ((0, 1), (2,)), ((0, 2), (1,)), ((0,), (1,), (2,)), ((0, 1, 2),)
PLAIN = ((1, 1, 1), (1, 1, 1))
FREE = ((0, 0, 0), (0, 0, 0))
ONLY = ((0,),)


def passed(start, row):
    """Return all groupings on the way of a row, first and last one too."""
    found = [start]
    for step in row:
        found.append(plain_step(found[-1], step))
    return found


def least_tour(start, stops, prices):
    """Return the least price of a tour, walking groupings together with the set of the stops passed."""
    size = sum(len(lot) for lot in start)
    costs = costs_of(size, prices)
    behind = {one: [(plain_step(one, step), costs[step]) for step in costs] for one in plain_groupings(size)}
    begin = (start, frozenset(stops) & {start})
    least, queue = {begin: 0}, [(0, start, sorted(begin[1]))]
    while queue:
        price, here, seen = heappop(queue)
        if set(seen) == set(stops):
            return price
        if least[here, frozenset(seen)] < price:
            continue
        for there, cost in behind[here]:
            after = frozenset(seen) | (frozenset(stops) & {there})
            if least.get((there, after), 10 ** 9) > price + cost:
                least[there, after] = price + cost
                heappush(queue, (price + cost, there, sorted(after)))
    return None


def order_prices(start, stops, prices):
    """Return a dict with the least price of going to the stops in each order."""
    known = plain_groupings(sum(len(lot) for lot in start))
    ways = [dict(zip(known, worths(stop, prices))) for stop in stops]
    found = {}
    for order in permutations(range(len(stops))):
        here, found[order] = start, 0
        for at in order:
            found[order] += ways[at][here]
            here = stops[at]
    return found


def some_stops(size, many, seed):
    mixed = Random(seed)
    return tuple(mixed.choice(plain_groupings(size)) for _ in range(many))


class Tours(Case):
    def test_example(self):
        self.assertEqual([cheap_tour(GOOD, (OTHER,), PLAIN)[0], tour_order(GOOD, (OTHER, GOOD), PLAIN)], [2, (1, 0)])

    def check_tour(self, start, stops, prices, least):
        size = sum(len(lot) for lot in start)
        got = cheap_tour(start, stops, prices)
        self.assertEqual([type(got), len(got), type(got[0]), type(got[1])], [tuple, 2, int, tuple])
        price, row = got
        self.assertEqual([price, sum(costs_of(size, prices)[step] for step in row)], [least, least])
        self.assertLessEqual(len(row), 1000)
        self.assertTrue(set(stops) <= set(passed(start, row)))
        self.assertIs(shows_cheap_tour(start, stops, prices, got), True)
        self.assertIs(shows_cheap_tour(start, stops, prices, (price + 1, row)), False)

    def test_by_walking(self):
        for size, turns in ((1, 8), (2, 16), (3, 24), (4, 16), (5, 6), (6, 2)):
            for turn in range(turns):
                stops, prices = some_stops(size, 1 + turn % 4, turn), some_prices(size, turn)
                start = some_stops(size, 1, turn + 100)[0]
                self.check_tour(start, stops, prices, least_tour(start, stops, prices))

    def test_by_all_orders(self):
        for size, turns in ((1, 8), (2, 16), (3, 40), (4, 16), (5, 6), (6, 6)):
            for turn in range(turns):
                stops, prices = some_stops(size, 1 + turn % 4, turn + 50), some_prices(size, turn + 2)
                start = some_stops(size, 1, turn)[0]
                found = order_prices(start, stops, prices)
                least = min(found.values())
                self.check_tour(start, stops, prices, least)
                order = tour_order(start, stops, prices)
                self.assertEqual(order, min(order for order in found if found[order] == least))
                self.assertEqual([type(order), sorted(order)], [tuple, list(range(len(stops)))])

    def test_one_stop(self):
        for size in SIZES:
            for turn in range(4):
                (start, stop), prices = some_stops(size, 2, turn), some_prices(size, turn)
                self.check_tour(start, (stop,), prices, cheap_row(start, stop, prices)[0])
                self.assertEqual(tour_order(start, (stop,), prices), (0,))

    def test_start_as_a_stop(self):
        for size in SIZES:
            dear = ((5,) * size, (7,) * (size * (size - 1) // 2))
            for start in plain_groupings(size)[::31]:
                for many in (1, 4):
                    self.assertEqual(cheap_tour(start, (start,) * many, dear), (0, ()))
                    self.assertEqual(tour_order(start, (start,) * many, dear), tuple(range(many)))
                    self.assertIs(shows_cheap_tour(start, (start,) * many, dear, (0, ())), True)
        self.assertEqual(tour_order(GOOD, (ALL, GOOD), PLAIN), (1, 0))
        self.assertEqual(tour_order(GOOD, (APART, ALL, GOOD), PLAIN), (0, 2, 1))
        self.assertEqual(cheap_tour(GOOD, (ALL, GOOD), PLAIN)[0], 1)

    def test_one_stop_twice(self):
        self.assertEqual(cheap_tour(GOOD, (ALL, ALL), PLAIN)[0], 1)
        self.assertEqual(tour_order(GOOD, (ALL, ALL), PLAIN), (0, 1))
        self.assertEqual(tour_order(GOOD, (APART, ALL, APART), PLAIN), (0, 2, 1))
        self.assertEqual(tour_order(APART, (ALL, GOOD, ALL, GOOD), PLAIN), (1, 3, 0, 2))

    def test_stops_of_the_same_cost(self):
        self.assertEqual(tour_order(APART, (GOOD, OTHER), PLAIN), (0, 1))
        self.assertEqual(tour_order(APART, (OTHER, GOOD), PLAIN), (0, 1))
        self.assertEqual(tour_order(ALL, (APART, GOOD, OTHER, ALL), FREE), (0, 1, 2, 3))

    def test_stops_on_the_way_to_others(self):
        self.assertEqual(tour_order(APART, (ALL, GOOD), PLAIN), (1, 0))
        self.assertEqual(cheap_tour(APART, (ALL, GOOD), PLAIN)[0], 2)
        self.check_tour(APART, (ALL, GOOD, APART), PLAIN, 2)

    def test_prices_of_nothing(self):
        for size in SIZES:
            free = ((0,) * size, (0,) * (size * (size - 1) // 2))
            for many in (1, 4):
                self.check_tour(plain_groupings(size)[-1], some_stops(size, many, many), free, 0)
                self.assertEqual(tour_order(plain_groupings(size)[-1], some_stops(size, many, 1), free), tuple(range(many)))

    def test_size_one(self):
        for price in (0, 5):
            for many in (1, 4):
                self.assertEqual(cheap_tour(ONLY, (ONLY,) * many, ((price,), ())), (0, ()))
                self.assertEqual(tour_order(ONLY, (ONLY,) * many, ((price,), ())), tuple(range(many)))
                self.assertIs(shows_cheap_tour(ONLY, (ONLY,) * many, ((price,), ()), (price, ((0,),))), price == 0)

    def test_numbers_of_stops(self):
        for stops in ((), (GOOD,) * 5):
            for call in (cheap_tour, tour_order):
                self.fails((BadStops, {"index": None}, stops), call, GOOD, stops, PLAIN)
            self.fails((BadStops, {"index": None}, stops), shows_cheap_tour, GOOD, stops, PLAIN, (0, ()))

    def test_bad_arguments(self):
        for size in (1, 2, 3, 6):
            one = plain_groupings(size)[0]
            good = [one, (one,), some_prices(size, 2)]
            bads = [no_groupings(), bad_many(BadStops, size, 4)[::1 if size == 3 else 5], bad_prices(size)]
            self.refuses(cheap_tour, good, bads)
            self.refuses(tour_order, good, bads)
            self.refuses(shows_cheap_tour, good + [None], bads + [[]])


class ShowsCheapTour(Case):
    def test_all_short_rows(self):
        for size, most, seed in ((2, 4, 2), (2, 4, 0), (3, 3, 2), (3, 3, 0), (3, 3, 7)):
            prices = some_prices(size, seed)
            costs = costs_of(size, prices)
            rows = [row for many in range(most + 1) for row in plain_rows(size, many)]
            for turn in range(5):
                stops, start = some_stops(size, 1 + turn % 4, turn), plain_groupings(size)[-turn % 2]
                least = least_tour(start, stops, prices)
                for row in rows[::1 if size == 2 else 3]:
                    price = sum(costs[step] for step in row)
                    want = price == least and set(stops) <= set(passed(start, row))
                    self.assertIs(shows_cheap_tour(start, stops, prices, (price, row)), want)

    def test_the_way_may_end_anywhere(self):
        free = ((0, 0, 0), (1, 1, 1))
        for row in (((0, 1),), ((0, 1), (0,)), ((0, 1), (0,), (1,)), ((2,), (0, 1)), ((2,), (0, 1), (2,), (1,))):
            self.assertIs(shows_cheap_tour(APART, (GOOD, APART), free, (1, row)), True)
        self.assertIs(shows_cheap_tour(APART, (OTHER, APART), free, (1, ((0, 1),))), False)

    def test_longer_rows_of_the_same_price(self):
        free = ((0, 0, 0), (1, 1, 1))
        for many, want in ((0, True), (1, True), (300, True), (999, True), (1000, False), (1200, False)):
            self.assertIs(shows_cheap_tour(GOOD, (ALL,), free, (1, ((2,),) * many + ((0, 2),))), want)
        self.assertIs(shows_cheap_tour(GOOD, (GOOD,), free, (0, ((2,),) * 1000)), True)
        self.assertIs(shows_cheap_tour(GOOD, (GOOD,), free, (0, ((2,),) * 1001)), False)

    def test_near_values(self):
        prices = ((1, 1, 1), (5, 1, 4))
        self.assertIs(shows_cheap_tour(GOOD, (ALL,), prices, (1, ((0, 2),))), True)
        self.refuses_last(shows_cheap_tour, [GOOD, (ALL,), prices], [
            (True, ((0, 2),)), (2, ((0, 2),)), (0, ((0, 2),)), (4, ((1, 2),)), (1, ((1, 2),)), (1, ((0, 1),)),
            (1, ((2,),)), (2, ((2,), (0, 2))), (1, ((2,), (0, 2))), [1, ((0, 2),)], (1, [(0, 2)]), (1, ([0, 2],)),
            (1, ((0, 2),), ()), (1,), (((0, 2),), 1), (1, (0, 2)), (1, ((2, 0),)), (1, ((False, 2),)), None, (1, None),
            (None, ((0, 2),)), ("1", ((0, 2),)), (1, ((0, 3),)), (1, ((0, 2), None)), (1, ()), (0, ()), (-1, ((0, 2),)),
            (2, ((0, 2), (0,))), {1: ((0, 2),)}])

    def test_any_value(self):
        for value in ANY_VALUES:
            self.assertIs(shows_cheap_tour(GOOD, (ALL, GOOD), ((1, 1, 1), (5, 3, 4)), value), False)
            want = isinstance(value, tuple) and value == (0, ()) and value[0] is not False
            self.assertIs(shows_cheap_tour(ALL, (ALL, ALL), ((1, 1, 1), (5, 3, 4)), value), want)

    def test_price_of_each_step(self):
        for step in plain_steps(3):
            costs = {one: 1000 for one in plain_steps(3)}
            costs[step] = 3
            prices = tuple(tuple(costs[one] for one in costs if len(one) == many) for many in (1, 2))
            start = APART if len(step) == 2 else plain_step(APART, (0, max(1, step[0])))
            self.assertEqual(cheap_tour(start, (plain_step(start, step), start), prices), (3, (step,)))


if __name__ == "__main__":
    unittest.main()
