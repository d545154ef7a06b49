"""Point 2: groupings, steps and rows."""

import unittest
from random import Random

from groupdeeds.groupings import done, grouping_count, groupings, step_done, traced
from tests import helpers
from tests.helpers import SIZES, Case, bad_counts, bad_rows, bad_sizes, bad_steps, no_groupings
from tests.helpers import plain_done, plain_groupings, plain_step, plain_steps

GOOD = ((0, 1), (2,))
FORTY = ((0, 1), (0,)) * 20


class Groupings(Case):
    def test_example(self):
        got = [groupings(2), grouping_count(5), step_done(GOOD, (1, 2)), done(GOOD, ((0,), (0, 2))),
               traced(GOOD, ((0,),))]
        want = [(((0,), (1,)), ((0, 1),)), 52, ((0, 1, 2),), ((0, 2), (1,)), (((0, 1), (2,)), ((0,), (1,), (2,)))]
        self.assertEqual(got, want)

    def test_all_of_each_size(self):
        for size in SIZES:
            self.assertEqual(groupings(size), tuple(plain_groupings(size)))
        self.assertEqual([len(groupings(size)) for size in SIZES], [1, 2, 5, 15, 52, 203])

    def test_kinds(self):
        for grouping in groupings(4):
            self.assertIs(type(grouping), tuple)
            for lot in grouping:
                self.assertIs(type(lot), tuple)
                self.assertEqual([type(person) for person in lot], [int] * len(lot))

    def test_bad_sizes(self):
        self.refuses(groupings, [1], [bad_sizes()])

    def test_counts(self):
        self.assertEqual([grouping_count(size) for size in range(11)],
                         [1, 1, 2, 5, 15, 52, 203, 877, 4140, 21147, 115975])

    def test_counts_by_those_who_are_with_the_first(self):
        counts = [grouping_count(size) for size in range(101)]
        chosen = [1]
        for size in range(100):
            self.assertEqual(counts[size + 1], sum(ways * count for ways, count in zip(chosen, counts)))
            chosen = [1] + [one + other for one, other in zip(chosen, chosen[1:])] + [1]

    def test_bad_counts(self):
        self.refuses(grouping_count, [1], [bad_counts(0, 100)])


class Steps(Case):
    def test_each_step_of_each_grouping(self):
        for size in SIZES:
            for grouping in plain_groupings(size):
                for step in plain_steps(size):
                    self.assertEqual(step_done(grouping, step), plain_step(grouping, step))

    def test_nothing_to_do(self):
        self.assertEqual(step_done(GOOD, (0, 1)), GOOD)
        self.assertEqual(step_done(GOOD, (2,)), GOOD)
        self.assertEqual(step_done(((0,),), (0,)), ((0,),))

    def test_bad_arguments(self):
        for grouping in (((0,),), ((0, 1),), GOOD, ((0, 5), (1, 2, 3), (4,))):
            size = sum(len(lot) for lot in grouping)
            self.refuses(step_done, [grouping, (0,)], [no_groupings(), bad_steps(size)])


class Rows(Case):
    def some_rows(self, size):
        mixed = Random(size)
        steps = plain_steps(size)
        return [tuple(mixed.choice(steps) for _ in range(many)) for many in (0, 1, 2, 3, 5, 8, 13, 39, 40)]

    def test_done(self):
        for size in SIZES:
            for row in self.some_rows(size):
                for grouping in plain_groupings(size)[::7]:
                    self.assertEqual(done(grouping, row), plain_done(grouping, row))

    def test_traced(self):
        for size in SIZES:
            for row in self.some_rows(size):
                for grouping in plain_groupings(size)[::17]:
                    want = tuple(plain_done(grouping, row[:many]) for many in range(len(row) + 1))
                    self.assertEqual(traced(grouping, row), want)

    def test_no_steps(self):
        for size in SIZES:
            for grouping in plain_groupings(size):
                self.assertEqual(done(grouping, ()), grouping)
                self.assertEqual(traced(grouping, ()), (grouping,))

    def test_forty_steps_and_no_more(self):
        self.assertEqual(done(GOOD, FORTY), ((0,), (1,), (2,)))
        self.assertEqual(len(traced(GOOD, FORTY)), 41)
        for call in (done, traced):
            for row in (FORTY + ((0,),), (None,) + FORTY, FORTY * 100):
                self.fails((helpers.errors.BadRow, {"index": None}, row), call, GOOD, row)

    def test_first_bad_step(self):
        for call in (done, traced):
            for row, index in ((((0,), (3,), None), 1), (((0,), (1,), (1, 0)), 2), ((None, (7,)), 0)):
                self.fails((helpers.errors.BadRow, {"index": index}, row), call, GOOD, row)

    def test_bad_arguments(self):
        for call in (done, traced):
            for grouping in (((0,),), ((0, 1),), GOOD):
                size = sum(len(lot) for lot in grouping)
                self.refuses(call, [grouping, ()], [no_groupings(), bad_rows(size)])

    def test_arguments_stay(self):
        row = [(0,), [1]]
        for call in (done, traced):
            with self.assertRaises(helpers.errors.BadRow):
                call(GOOD, row)
        self.assertEqual(row, [(0,), [1]])


if __name__ == "__main__":
    unittest.main()
