"""Point 16: what is best with likings and prices, in the end and all the time."""

import unittest

from groupdeeds.errors import BadCount, BadLikings
from groupdeeds.nets import best_net, best_stay, shows_best_net, shows_best_stay, stay_worths
from groupdeeds.prices import worths
from tests.helpers import ANY_VALUES, SIZES, Case, bad_counts, bad_prices, no_groupings, plain_done, plain_groupings
from tests.helpers import plain_rows, plain_step, plain_steps
from tests.test_likings import plain_worth
from tests.test_prices import costs_of, some_prices
from tests.arguments import PAIR_NUMBERS, bad_likings, bad_numbers_of_likings, some_likings

GOOD, APART, ALL = ((0, 1), (2,)), ((0,), (1,), (2,)), ((0, 1, 2),)
PLAIN = ((1, 1, 1), (1, 1, 1))
LIKED = (4, -1, -1)


def cheap_prices(size, seed):
    """Return prices that are worth paying: the least ones of other prices."""
    leaves, joins = some_prices(size, seed)
    return (tuple(price & 15 for price in leaves), tuple(price & 31 for price in joins))


def row_net(start, row, likings, prices):
    costs = costs_of(sum(len(lot) for lot in start), prices)
    return plain_worth(plain_done(start, row), likings) - sum(costs[step] for step in row)


def row_total(start, row, likings, prices):
    costs = costs_of(sum(len(lot) for lot in start), prices)
    total = 0
    for step in row:
        start = plain_step(start, step)
        total += plain_worth(start, likings) - costs[step]
    return total


class BestNet(Case):
    def test_example(self):
        got = [best_net(APART, LIKED, PLAIN), best_stay(GOOD, LIKED, PLAIN, 1)[0],
               stay_worths((4,), ((1, 1), (1,)), 1), shows_best_net(GOOD, LIKED, PLAIN, (4, ()))]
        self.assertEqual(got, [(3, ((0, 1),)), 3, ((0, 0), (3, 3)), True])

    def check_net(self, start, likings, prices, want):
        got = best_net(start, likings, prices)
        self.assertEqual([type(got), len(got), type(got[0]), type(got[1])], [tuple, 2, int, tuple])
        self.assertEqual(got[0], want)
        self.assertLessEqual(len(got[1]), 300)
        self.assertTrue(all(step in plain_steps(sum(len(lot) for lot in start)) for step in got[1]))
        self.assertEqual(row_net(start, got[1], likings, prices), want)
        self.assertIs(shows_best_net(start, likings, prices, got), True)

    def test_by_the_cheapest_row_to_each_grouping(self):
        for size in (1, 2, 3, 4):
            known = plain_groupings(size)
            for seed in range(14):
                for prices in (some_prices(size, seed), cheap_prices(size, seed)):
                    likings = some_likings(size, seed + 3)
                    least = {goal: dict(zip(known, worths(goal, prices))) for goal in known}
                    for start in known[seed % 3::1 if size < 4 else 4]:
                        nets = [plain_worth(goal, likings) - least[goal][start] for goal in known]
                        self.check_net(start, likings, prices, max(nets))

    def test_by_walking(self):
        """Better nets are looked for, a step more each time, as long as there are any."""
        for size, seeds in ((5, 6), (6, 3)):
            known = plain_groupings(size)
            behind = {one: [(step, plain_step(one, step)) for step in plain_steps(size)] for one in known}
            for seed in range(seeds):
                likings, prices = some_likings(size, seed), cheap_prices(size, seed + 1)
                costs = costs_of(size, prices)
                nets, better = {}, {one: plain_worth(one, likings) for one in known}
                while nets != better:
                    nets = better
                    better = {one: max([nets[one]] + [nets[there] - costs[step] for step, there in behind[one]])
                              for one in known}
                for start in known[seed::1 + len(known) // 5]:
                    self.check_net(start, likings, prices, nets[start])

    def test_no_step_is_worth_its_price(self):
        for size in SIZES:
            likings = some_likings(size, 1)
            dear = ((1000,) * size, (1000,) * PAIR_NUMBERS[size])
            for start in plain_groupings(size)[::17]:
                want = (plain_worth(start, likings), ())
                self.assertEqual(best_net(start, likings, dear), want)
                self.assertIs(shows_best_net(start, likings, dear, want), True)

    def test_all_steps_are_free(self):
        for size in SIZES:
            likings = some_likings(size, 0)
            free = ((0,) * size, (0,) * PAIR_NUMBERS[size])
            most = max(plain_worth(one, likings) for one in plain_groupings(size))
            for start in plain_groupings(size)[::17]:
                self.check_net(start, likings, free, most)

    def test_size_one(self):
        only = ((0,),)
        self.assertEqual(best_net(only, (), ((5,), ())), (0, ()))
        self.assertEqual(best_net(only, (), ((0,), ()))[0], 0)
        for many in (0, 1, 300, 301):
            row = ((0,),) * many
            self.assertIs(shows_best_net(only, (), ((0,), ()), (0, row)), many <= 300)
            self.assertIs(shows_best_net(only, (), ((5,), ()), (0, row)), many == 0)
            self.assertIs(shows_best_net(only, (), ((5,), ()), (-5 * many, row)), many == 0)

    def test_bad_arguments(self):
        for size in (1, 2, 3, 6):
            good = [plain_groupings(size)[0], some_likings(size, 0), some_prices(size, 2)]
            bads = [no_groupings(), bad_likings(size), bad_prices(size)]
            self.refuses(best_net, good, bads)
            self.refuses(shows_best_net, good + [None], bads + [[]])


class ShowsBestNet(Case):
    def test_all_short_rows(self):
        for size, most in ((2, 4), (3, 3)):
            rows = [row for many in range(most + 1) for row in plain_rows(size, many)]
            for seed in range(8):
                likings, prices = some_likings(size, seed), cheap_prices(size, seed)
                for start in plain_groupings(size)[::2]:
                    best = best_net(start, likings, prices)[0]
                    for row in rows[::1 if size == 2 else 7]:
                        net = row_net(start, row, likings, prices)
                        self.assertIs(shows_best_net(start, likings, prices, (net, row)), net == best)
                        self.assertIs(shows_best_net(start, likings, prices, (best, row)), net == best)

    def test_other_rows_of_the_same_net(self):
        free = ((0, 0, 0), (1, 1, 1))
        for many, want in ((0, True), (1, True), (40, True), (299, True), (300, False), (400, False)):
            self.assertIs(shows_best_net(APART, LIKED, free, (3, ((2,),) * many + ((0, 1),))), want)
        self.assertIs(shows_best_net(APART, LIKED, free, (3, ((0, 1), (2,)))), True)
        self.assertIs(shows_best_net(APART, LIKED, free, (3, ((0, 1), (0,)))), False)
        self.assertIs(shows_best_net(GOOD, LIKED, free, (4, ((2,),) * 300)), True)
        self.assertIs(shows_best_net(GOOD, LIKED, free, (4, ((2,),) * 301)), False)

    def test_near_values(self):
        likings, start = (2, -1, -1), APART
        self.assertIs(shows_best_net(start, likings, PLAIN, (1, ((0, 1),))), True)
        self.refuses_last(shows_best_net, [start, likings, PLAIN], [
            (True, ((0, 1),)), (0, ((0, 1),)), (2, ((0, 1),)), (1, ((0, 2),)), (0, ()), (1, ()), (1, ((1, 0),)),
            [1, ((0, 1),)], (1, [(0, 1)]), (1, ([0, 1],)), (1, ((False, 1),)), (1, ((0, True),)), (1, ((0, 1),), 0),
            (1,), (((0, 1),), 1), 1, None, (1, None), (None, ((0, 1),)), ("1", ((0, 1),)), (1, ((0, 3),)), (1, (0, 1)),
            (1, ((0, 1), (0, 1))), (0, ((0, 1), (0, 1))), (1, ((0, 1), None)), (1, ((0, 1), ())), {1: ((0, 1),)}])
        self.assertIs(shows_best_net(APART, (-1, -1, -1), PLAIN, (0, ())), True)
        self.refuses_last(shows_best_net, [APART, (-1, -1, -1), PLAIN], [(False, ()), (0, []), (0, {}), (0, ""), 0])

    def test_any_value(self):
        for value in ANY_VALUES:
            self.assertIs(shows_best_net(APART, LIKED, PLAIN, value), False)
            want = isinstance(value, tuple) and value == (0, ()) and value[0] is not False
            self.assertIs(shows_best_net(APART, (0, 0, 0), PLAIN, value), want)


class BestStay(Case):
    def check_stay(self, start, likings, prices, many, want):
        got = best_stay(start, likings, prices, many)
        self.assertEqual([type(got), len(got), type(got[0]), type(got[1])], [tuple, 2, int, tuple])
        self.assertEqual([got[0], len(got[1])], [want, many])
        self.assertEqual(row_total(start, got[1], likings, prices), want)
        self.assertIs(shows_best_stay(start, likings, prices, many, got), True)

    def test_all_rows(self):
        for size, most in ((1, 4), (2, 5), (3, 3), (4, 2)):
            known = plain_groupings(size)
            for seed in range(5):
                likings, prices = some_likings(size, seed), cheap_prices(size, seed)
                told = stay_worths(likings, prices, most)
                for many in range(1, most + 1):
                    rows = plain_rows(size, many)
                    for start in known[seed % 2::1 + size]:
                        most_total = max(row_total(start, row, likings, prices) for row in rows)
                        self.check_stay(start, likings, prices, many, most_total)
                        self.assertEqual(told[many][known.index(start)], most_total)

    def test_a_step_more_each_time(self):
        for size in SIZES:
            known = plain_groupings(size)
            behind = {one: [(step, plain_step(one, step)) for step in plain_steps(size)] for one in known}
            for seed in range(7 if size < 5 else 3):
                likings, prices = some_likings(size, seed + 7), cheap_prices(size, seed)
                costs = costs_of(size, prices)
                worth = {one: plain_worth(one, likings) for one in known}
                want = [{one: 0 for one in known}]
                for many in range(1, 9):
                    want.append({one: max(worth[there] - costs[step] + want[-1][there] for step, there in behind[one])
                                 for one in known})
                for many in (1, 5, 8):
                    rows = tuple(tuple(totals.values()) for totals in want[:many + 1])
                    self.assertEqual(stay_worths(likings, prices, many), rows)
                    for start in known[many::1 + len(known) // 3]:
                        self.check_stay(start, likings, prices, many, want[many][start])

    def test_numbers_of_steps(self):
        for many in (0, 9, -1, True):
            self.fails((BadCount, {}, many), best_stay, GOOD, LIKED, PLAIN, many)
            self.fails((BadCount, {}, many), shows_best_stay, GOOD, LIKED, PLAIN, many, (0, ()))
            self.fails((BadCount, {}, many), stay_worths, LIKED, PLAIN, many)

    def test_size_one(self):
        for many in (1, 8):
            self.assertEqual(best_stay(((0,),), (), ((3,), ()), many), (-3 * many, ((0,),) * many))
            self.assertEqual(stay_worths((), ((3,), ()), many), tuple((-3 * left,) for left in range(many + 1)))

    def test_equal_totals(self):
        free = ((0, 0, 0), (0, 0, 0))
        for row in plain_rows(3, 2):
            self.assertIs(shows_best_stay(GOOD, (0, 0, 0), free, 2, (0, row)), True)

    def test_shows_of_all_short_rows(self):
        for size, many in ((2, 1), (2, 3), (3, 2)):
            for seed in range(8):
                likings, prices = some_likings(size, seed), cheap_prices(size, seed)
                for start in plain_groupings(size)[::2]:
                    best = best_stay(start, likings, prices, many)[0]
                    for row in plain_rows(size, many):
                        total = row_total(start, row, likings, prices)
                        self.assertIs(shows_best_stay(start, likings, prices, many, (total, row)), total == best)
                        self.assertIs(shows_best_stay(start, likings, prices, many, (best, row)), total == best)
                        for other in (row[:-1], row + row[:1], ()):
                            self.assertIs(shows_best_stay(start, likings, prices, many, (best, other)), False)

    def test_near_values(self):
        good = (APART, (2, -1, -1), ((1, 1, 1), (1, 1, 1)), 1)
        self.assertIs(shows_best_stay(*good, (1, ((0, 1),))), True)
        self.refuses_last(shows_best_stay, good, [
            (True, ((0, 1),)), (0, ((0, 1),)), (2, ((0, 1),)), (1, ((0, 2),)), (1, ()), (0, ()), [1, ((0, 1),)],
            (1, [(0, 1)]), (1, ([0, 1],)), (1, ((1, 0),)), (1, ((0, True),)), (1, ((0, 1), (0, 1))), (1, ((0, 1),), 1),
            (2, ((0, 1), (0, 1))), (1,), 1, None, (None, ((0, 1),)), (1, None), ("1", ((0, 1),)), (1, (0, 1)),
            (1, ((0, 3),)), (1, (None,)), (1, ((),)), {1: ((0, 1),)}, (((0, 1),), 1)])

    def test_any_value(self):
        for value in ANY_VALUES:
            self.assertIs(shows_best_stay(APART, LIKED, PLAIN, 2, value), False)
            want = isinstance(value, tuple) and value == (0, ((0,),)) and value[0] is not False
            self.assertIs(shows_best_stay(((0,),), (), ((0,), ()), 1, value), want)

    def test_bad_arguments(self):
        for size in (1, 2, 3, 6):
            good = [plain_groupings(size)[0], some_likings(size, 0), some_prices(size, 2), 3]
            bads = [no_groupings(), bad_likings(size), bad_prices(size), bad_counts(1, 8)]
            self.refuses(best_stay, good, bads)
            self.refuses(shows_best_stay, good + [None], bads + [[]])

    def test_bad_arguments_of_stay_worths(self):
        for size in SIZES:
            good = [some_likings(size, 0), some_prices(size, 2), 3]
            self.refuses(stay_worths, good, [bad_numbers_of_likings(), bad_prices(size), bad_counts(1, 8)])
        for many in (2, 4, 5, 7):
            self.fails((BadLikings, {}, many), stay_worths, (0,) * many, PLAIN, 1)

    def test_size_is_that_of_the_likings(self):
        for size in SIZES:
            told = stay_worths((0,) * PAIR_NUMBERS[size], some_prices(size, 1), 2)
            self.assertEqual([len(totals) for totals in told], [len(plain_groupings(size))] * 3)


class TwoPeople(Case):
    def test_by_hand(self):
        apart, pair, prices = ((0,), (1,)), ((0, 1),), ((2, 3), (4,))
        self.assertEqual(best_stay(apart, (10,), prices, 2), (12, ((0, 1), (0, 1))))
        self.assertEqual(best_stay(apart, (1,), prices, 2), (-4, ((0,), (0,))))
        self.assertEqual(best_stay(pair, (-3,), prices, 1), (-2, ((0,),)))
        self.assertEqual(stay_worths((10,), prices, 2), ((0, 0), (6, 6), (12, 12)))
        self.assertEqual([best_net(apart, (10,), prices), best_net(apart, (4,), prices)[0]], [(6, ((0, 1),)), 0])
        self.assertEqual([best_net(pair, (-3,), prices), best_net(pair, (-1,), prices)], [(-2, ((0,),)), (-1, ())])


if __name__ == "__main__":
    unittest.main()
