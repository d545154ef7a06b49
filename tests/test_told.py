"""Point 27: groupings that fit pairs told to be together or apart."""

import unittest
from itertools import combinations
from random import Random

from groupdeeds.errors import BadTold
from groupdeeds.moving import distance
from groupdeeds.told import fitting_count, fitting_groupings, least_lots, nearest_fitting, sure_pairs
from tests.helpers import SIZES, Case, bad_sizes, no_groupings, plain_groupings
from tests.arguments import bad_told

GOOD = ((0, 1), (2,))


def pairs_of(size):
    return list(combinations(range(size), 2))


def all_told(size):
    """Return all told pairs of a small size, those with one pair on both sides too."""
    sides = [side for many in range(len(pairs_of(size)) + 1) for side in combinations(pairs_of(size), many)]
    return [(one, other) for one in sides for other in sides]


def some_told(size, seed):
    """Return told pairs: some that hold in one grouping, some of which one does not, or any."""
    mixed = Random(seed)
    one = mixed.choice(plain_groupings(size))
    sides = ([], [])
    for pair in pairs_of(size):
        if mixed.random() < (0.15, 0.4, 0.8)[seed % 3]:
            sides[0 if holds(pair, one) else 1].append(pair)
    if seed % 4 == 3 and pairs_of(size):
        pair = mixed.choice(pairs_of(size))
        side = sides[mixed.randrange(2)]
        if pair not in side:
            side.append(pair)
    return tuple(tuple(sorted(side)) for side in sides)


def holds(pair, grouping):
    return any(set(pair) <= set(lot) for lot in grouping)


def plain_fitting(size, told):
    return tuple(one for one in plain_groupings(size) if all(holds(pair, one) for pair in told[0])
                 and not any(holds(pair, one) for pair in told[1]))


class Told(Case):
    def test_example(self):
        got = [fitting_count(3, (((0, 1),), ())), sure_pairs(2, ((), ())), fitting_groupings(3, (((0, 1),), ((0, 2),))),
               least_lots(3, ((), ((0, 1),))), nearest_fitting(GOOD, ((), ((0, 1),)))]
        self.assertEqual(got, [2, ((), ()), (((0, 1), (2,)),), 2, ((0,), (1,), (2,))])

    def check_told(self, size, told):
        want = plain_fitting(size, told)
        self.assertEqual(fitting_groupings(size, told), want)
        self.assertEqual(fitting_count(size, told), len(want))
        self.assertEqual(least_lots(size, told), min((len(one) for one in want), default=None))
        if want:
            together = tuple(pair for pair in pairs_of(size) if all(holds(pair, one) for one in want))
            apart = tuple(pair for pair in pairs_of(size) if not any(holds(pair, one) for one in want))
            self.assertEqual(sure_pairs(size, told), (together, apart))
        else:
            self.assertIsNone(sure_pairs(size, told))
        return want

    def check_nearest(self, grouping, told, want):
        far = min((distance(grouping, one) for one in want), default=None)
        nearest = min((one for one in want if distance(grouping, one) == far), default=None)
        self.assertEqual(nearest_fitting(grouping, told), nearest)

    def test_all_told_pairs_of_few_people(self):
        for size in (1, 2, 3):
            for told in all_told(size):
                want = self.check_told(size, told)
                for grouping in plain_groupings(size):
                    self.check_nearest(grouping, told, want)

    def test_some_told_pairs(self):
        for size, turns in ((4, 40), (5, 24), (6, 16)):
            known = plain_groupings(size)
            for turn in range(turns):
                told = some_told(size, turn)
                want = self.check_told(size, told)
                for grouping in known[turn % 5::1 + len(known) // 5]:
                    self.check_nearest(grouping, told, want)

    def test_nothing_told(self):
        for size in SIZES:
            known = plain_groupings(size)
            self.assertEqual(self.check_told(size, ((), ())), tuple(known))
            self.assertEqual([sure_pairs(size, ((), ())), least_lots(size, ((), ()))], [((), ()), 1])
            for one in known[::11]:
                self.assertEqual(nearest_fitting(one, ((), ())), one)

    def test_one_pair_on_both_sides(self):
        for size in SIZES[1:]:
            for pair in pairs_of(size):
                told = ((pair,), (pair,))
                self.assertEqual([fitting_groupings(size, told), fitting_count(size, told)], [(), 0])
                self.assertEqual([sure_pairs(size, told), least_lots(size, told)], [None, None])
                self.assertIsNone(nearest_fitting(plain_groupings(size)[-1], told))

    def test_what_follows_cannot_fit(self):
        told = (((0, 1), (1, 2)), ((0, 2),))
        self.assertEqual([fitting_groupings(3, told), fitting_count(3, told)], [(), 0])
        self.assertEqual([sure_pairs(3, told), least_lots(3, told), nearest_fitting(GOOD, told)], [None] * 3)

    def test_what_follows_is_sure(self):
        self.assertEqual(sure_pairs(4, (((0, 1), (1, 2)), ((2, 3),))), (((0, 1), (0, 2), (1, 2)), ((0, 3), (1, 3), (2, 3))))
        self.assertEqual(least_lots(4, ((), ((0, 1), (0, 2), (1, 2)))), 3)

    def test_all_told(self):
        for size in SIZES:
            for one in plain_groupings(size)[::7]:
                together = tuple(pair for pair in pairs_of(size) if holds(pair, one))
                apart = tuple(pair for pair in pairs_of(size) if not holds(pair, one))
                self.assertEqual(fitting_groupings(size, (together, apart)), (one,))
                self.assertEqual(sure_pairs(size, (together, apart)), (together, apart))
                self.assertEqual(least_lots(size, (together, apart)), len(one))
                self.assertEqual(nearest_fitting(plain_groupings(size)[0], (together, apart)), one)

    def test_nearest_is_by_the_way_there(self):
        """The way back may be longer or shorter."""
        together, told = ((0, 1, 2, 3),), ((), ((0, 2),))
        want = plain_fitting(4, told)
        self.check_nearest(together, told, want)
        self.assertEqual(nearest_fitting(together, told), ((0,), (1, 2, 3)))
        self.assertEqual(nearest_fitting(((0,), (1,), (2,), (3,)), ((((0, 1)),), ((1, 2),))), ((0, 1), (2,), (3,)))

    def test_size_one(self):
        only = ((0,),)
        self.assertEqual([fitting_groupings(1, ((), ())), fitting_count(1, ((), ()))], [(only,), 1])
        self.assertEqual([least_lots(1, ((), ())), nearest_fitting(only, ((), ()))], [1, only])

    def test_bad_pairs(self):
        for told, index in (((((1, 0),), ()), 0), (((), ((1, 0),)), 1), ((((0, 1), (0, 1)), ()), 0), ((((0, 2), (0, 1)), ()), 0),
                            ((((0, 3),), ()), 0), (((), ((2, 3),)), 1), ((((0, 0),), ()), 0), ((((0, 1),), ((1, 1),)), 1),
                            ((((1, 0),), ((1, 0),)), 0), ((((1, 0),), None), None), ([(), ()], None), ((), None)):
            for call in (fitting_groupings, fitting_count, sure_pairs, least_lots):
                self.fails((BadTold, {"index": index}, told), call, 3, told)
            self.fails((BadTold, {"index": index}, told), nearest_fitting, GOOD, told)

    def test_bad_arguments(self):
        for size in SIZES:
            for call in (fitting_groupings, fitting_count, sure_pairs, least_lots):
                self.refuses(call, [size, ((), ())], [bad_sizes(), bad_told(size)])
            self.refuses(nearest_fitting, [plain_groupings(size)[0], ((), ())], [no_groupings(), bad_told(size)])


if __name__ == "__main__":
    unittest.main()
