"""Point 30: how many groupings there are with limits for the groups."""

import unittest
from math import comb

from groupdeeds.counting import lots_counts
from groupdeeds.errors import BadCount
from groupdeeds.groupings import grouping_count
from groupdeeds.limits import exact_count, limited_count, limited_groupings, split_count
from groupdeeds.order import finer_ones
from tests.helpers import HUGE, SIZES, Case, bad_counts, bad_sizes, no_groupings, plain_groupings, plain_parts


def parted(many):
    """Return the tuples of the numbers of people of the groups of all groupings of so many people."""
    return [tuple(len(lot) for lot in lots) for lots in plain_parts(list(range(many)))]


class Counts(Case):
    def test_example(self):
        got = [limited_count(3, 2), exact_count(4, 2, 2), len(limited_groupings(3, 2)), split_count(((0, 1, 2),), 2)]
        self.assertEqual(got, [4, 3, 4, 3])

    def test_limited_by_counting(self):
        for many in range(1, 9):
            found = parted(many)
            for most in range(1, 11):
                self.assertEqual(limited_count(many, most), len([lots for lots in found if max(lots) <= most]))

    def test_exact_by_counting(self):
        for many in range(1, 9):
            found = parted(many)
            for lots in range(1, 10):
                for least in range(1, 10):
                    want = len([sizes for sizes in found if len(sizes) == lots and min(sizes) >= least])
                    self.assertEqual(exact_count(many, lots, least), want)

    def test_no_limit(self):
        for many in range(1, 61):
            self.assertEqual(limited_count(many, many), grouping_count(many))
            self.assertEqual(limited_count(many, 60), grouping_count(many))
            self.assertEqual(limited_count(many, 1), 1)
            self.assertEqual(exact_count(many, 1, many), 1)
            self.assertEqual(exact_count(many, 1, 1), 1)
            self.assertEqual(exact_count(many, many, 1), 1)

    def test_sums_of_great_numbers(self):
        for many in (9, 20, 37, 59, 60):
            counts = tuple(exact_count(many, lots, 1) for lots in range(1, many + 1))
            self.assertEqual(counts, lots_counts(many))
            self.assertEqual(sum(counts), grouping_count(many))

    def test_one_person_more_in_pairs(self):
        """The first person is alone, or with one of the others."""
        for many in range(3, 61):
            want = limited_count(many - 1, 2) + (many - 1) * limited_count(many - 2, 2)
            self.assertEqual(limited_count(many, 2), want)

    def test_one_more_in_the_greatest_group(self):
        """All groupings, but for those with one group that is too great: it is the only one."""
        for many in (10, 31, 60):
            for most in range(many // 2, many):
                greater = sum(comb(many, size) * grouping_count(many - size) for size in range(most + 1, many + 1))
                self.assertEqual(limited_count(many, most), grouping_count(many) - greater)

    def test_one_person_more_where_groups_have_two_at_least(self):
        for many in range(3, 61, 3):
            for lots in range(2, many // 2 + 1, 4):
                more = exact_count(many - 2, lots - 1, 2) if many > 2 else 0
                want = lots * exact_count(many - 1, lots, 2) + (many - 1) * more
                self.assertEqual(exact_count(many, lots, 2), want)

    def test_groups_of_just_so_many(self):
        for lots, least in ((2, 30), (30, 2), (6, 10), (20, 3), (60, 1), (1, 60)):
            want = 1
            for turn in range(lots):
                want = want * comb(60 - turn * least - 1, least - 1)
            self.assertEqual(exact_count(60, lots, least), want)

    def test_more_than_there_are(self):
        for many in (1, 5, 59):
            self.assertEqual([exact_count(many, many + 1, 1), exact_count(many, 1, many + 1)], [0, 0])
            self.assertEqual(exact_count(many, 60, 60), 0)
        self.assertEqual([exact_count(5, 2, 3), exact_count(6, 2, 3), exact_count(59, 30, 2)], [0, 10, 0])

    def test_bounds(self):
        self.assertEqual([limited_count(1, 1), limited_count(1, 60), exact_count(1, 1, 1)], [1, 1, 1])
        for wrong in (0, 61, -1, True, HUGE, None):
            for told in ((wrong, 1), (1, wrong), (wrong, wrong)):
                self.fails((BadCount, {}, wrong), limited_count, *told)
            for told in ((wrong, 1, 1), (1, wrong, 1), (1, 1, wrong)):
                self.fails((BadCount, {}, wrong), exact_count, *told)

    def test_bad_arguments(self):
        self.refuses(limited_count, [1, 1], [bad_counts(1, 60)] * 2)
        self.refuses(exact_count, [1, 1, 1], [bad_counts(1, 60)] * 3)


class Groupings(Case):
    def test_limited_groupings(self):
        for size in SIZES:
            for most in range(1, 7):
                want = tuple(one for one in plain_groupings(size) if all(len(lot) <= most for lot in one))
                self.assertEqual(limited_groupings(size, most), want)
                self.assertEqual(limited_count(size, most), len(want))

    def test_split_by_finer_ones(self):
        for size in SIZES:
            for one in plain_groupings(size)[::1 if size < 6 else 5]:
                found = [len(finer) for finer in finer_ones(one)]
                for lots in range(1, 7):
                    self.assertEqual(split_count(one, lots), found.count(lots))

    def test_ends(self):
        for size in SIZES:
            alone, together = tuple((one,) for one in range(size)), (tuple(range(size)),)
            self.assertEqual(limited_groupings(size, 1), (alone,))
            self.assertEqual(limited_groupings(size, 6), tuple(plain_groupings(size)))
            for lots in range(1, 7):
                self.assertEqual(split_count(alone, lots), int(lots == size))
                self.assertEqual(split_count(together, lots), (lots_counts(size) + (0,) * 6)[lots - 1])
            for wrong in (0, 7):
                self.fails((BadCount, {}, wrong), limited_groupings, size, wrong)
                self.fails((BadCount, {}, wrong), split_count, together, wrong)

    def test_bad_arguments(self):
        self.refuses(limited_groupings, [1, 1], [bad_sizes(), bad_counts(1, 6)])
        self.refuses(split_count, [((0,),), 1], [no_groupings(), bad_counts(1, 6)])


if __name__ == "__main__":
    unittest.main()
