"""Point 3: finer and coarser groupings."""

import unittest

from groupdeeds.order import coarser_ones, finer_ones, is_finer, met, put_together, shares
from tests.helpers import SIZES, Case, bad_groupings, no_groupings, plain_groupings

GOOD = ((0, 1), (2,))


def friends(grouping):
    """Return the set of all pairs of people who are together."""
    return {(one, other) for lot in grouping for one in lot for other in lot}


def within(one, other):
    return all(any(set(lot) <= set(wide) for wide in other) for lot in one)


def pairs_of_groupings(size):
    """Return pairs of groupings: all of small sizes, some of the greater ones."""
    known = plain_groupings(size)
    step = {5: 3, 6: 7}.get(size, 1)
    return [(one, other) for one in known[::step] for other in known]


class Order(Case):
    def test_example(self):
        got = [is_finer(((0,), (1,), (2,)), GOOD), met(GOOD, ((0, 2), (1,))), put_together(GOOD, ((0,), (1, 2))),
               shares(GOOD, ((0,), (1, 2))), len(finer_ones(GOOD)), coarser_ones(GOOD)]
        self.assertEqual(got, [True, ((0,), (1,), (2,)), ((0, 1, 2),), (1, 1), 2, (((0, 1), (2,)), ((0, 1, 2),))])

    def test_is_finer(self):
        for size in SIZES:
            for one, other in pairs_of_groupings(size):
                self.assertIs(is_finer(one, other), within(one, other))

    def test_met(self):
        for size in SIZES:
            for one, other in pairs_of_groupings(size):
                got = met(one, other)
                self.assertIn(got, plain_groupings(size) if size < 5 else [got])
                self.assertEqual(friends(got), friends(one) & friends(other))

    def test_met_is_a_grouping(self):
        known = set(plain_groupings(6))
        for one, other in pairs_of_groupings(6)[::5]:
            self.assertIn(met(one, other), known)
            self.assertIn(put_together(one, other), known)

    def test_put_together_is_the_finest(self):
        for size in range(1, 5):
            known = plain_groupings(size)
            for one, other in pairs_of_groupings(size):
                above = [wide for wide in known if within(one, wide) and within(other, wide)]
                finest = [wide for wide in above if all(within(wide, wider) for wider in above)]
                self.assertEqual([put_together(one, other)], finest)

    def test_put_together_of_many(self):
        for size in (5, 6):
            for one, other in pairs_of_groupings(size)[::4]:
                got = put_together(one, other)
                self.assertTrue(within(one, got) and within(other, got))
                for wide in coarser_ones(one)[::3]:
                    if within(other, wide):
                        self.assertTrue(within(got, wide))

    def test_long_chains(self):
        self.assertEqual(put_together(((0, 1), (2, 3), (4, 5)), ((0,), (1, 2), (3, 4), (5,))), ((0, 1, 2, 3, 4, 5),))
        self.assertEqual(put_together(((0, 5), (1,), (2, 4), (3,)), ((0,), (1, 3), (2, 5), (4,))),
                         ((0, 2, 4, 5), (1, 3)))

    def test_finer_and_coarser_ones(self):
        for size in SIZES:
            known = plain_groupings(size)
            for grouping in known[::5 if size == 6 else 1]:
                self.assertEqual(finer_ones(grouping), tuple(one for one in known if within(one, grouping)))
                self.assertEqual(coarser_ones(grouping), tuple(one for one in known if within(grouping, one)))

    def test_shares(self):
        for size in SIZES:
            for one, other in pairs_of_groupings(size):
                want = tuple(max(len(set(lot) & set(wide)) for wide in other) for lot in one)
                self.assertEqual(shares(one, other), want)

    def test_size_one(self):
        only = ((0,),)
        self.assertEqual([is_finer(only, only), met(only, only), put_together(only, only), shares(only, only)],
                         [True, only, only, (1,)])
        self.assertEqual([finer_ones(only), coarser_ones(only)], [(only,), (only,)])

    def test_bad_arguments(self):
        for call in (is_finer, met, put_together, shares):
            for grouping in (((0,),), ((0, 1),), GOOD):
                size = sum(len(lot) for lot in grouping)
                self.refuses(call, [grouping, grouping], [no_groupings(), bad_groupings(size)])
        for call in (finer_ones, coarser_ones):
            self.refuses(call, [GOOD], [no_groupings()])


if __name__ == "__main__":
    unittest.main()
