"""Point 18: how many groupings there are, and which is which of them."""

import unittest

from groupdeeds.counting import chain_count, coarser_count, finer_count, grouping_at, lots_counts, number_of
from groupdeeds.errors import BadCount, BadNumber
from groupdeeds.groupings import grouping_count
from groupdeeds.order import coarser_ones, finer_ones
from tests.helpers import HUGE, SIZES, STRANGE, Case, bad_counts, bad_sizes, bads_of, no_groupings, plain_groupings
from tests.helpers import plain_step, plain_steps

GOOD, ALL = ((0, 1), (2,)), ((0, 1, 2),)


def alone(size):
    return tuple((person,) for person in range(size))


def together(size):
    return (tuple(range(size)),)


def bad_numbers(size):
    many = len(plain_groupings(size))
    values = [value for value in STRANGE if value != 201 or size < 6] + [many, many + 1, -many, (0,), [0], ((0,),)]
    return bads_of(BadNumber, values)


class LotsCounts(Case):
    def test_example(self):
        got = [lots_counts(4), number_of(((0,), (1,))), grouping_at(2, 1), finer_count(GOOD), coarser_count(GOOD),
               chain_count(ALL)]
        self.assertEqual(got, [(1, 7, 6, 1), 0, ((0, 1),), 2, 2, 3])

    def test_by_counting(self):
        for size in SIZES:
            lots = [len(one) for one in plain_groupings(size)]
            self.assertEqual(lots_counts(size), tuple(lots.count(many) for many in range(1, size + 1)))

    def test_sums(self):
        for many in range(1, 61):
            counts = lots_counts(many)
            self.assertEqual([type(counts), len(counts)], [tuple, many])
            self.assertEqual(sum(counts), grouping_count(many))

    def test_two_lots_and_one_less_than_people(self):
        for many in range(3, 61):
            counts = lots_counts(many)
            self.assertEqual([counts[0], counts[1], counts[-1]], [1, 2 ** (many - 1) - 1, 1])
            self.assertEqual(counts[-2], many * (many - 1) // 2)

    def test_one_person_more(self):
        for many in range(1, 60):
            counts, more = (0,) + lots_counts(many) + (0,), lots_counts(many + 1)
            self.assertEqual(more, tuple(at * counts[at] + counts[at - 1] for at in range(1, many + 2)))

    def test_ends(self):
        self.assertEqual([lots_counts(1), lots_counts(2)], [(1,), (1, 1)])
        for many in (0, 61, -1, True, HUGE):
            self.fails((BadCount, {}, many), lots_counts, many)
        self.refuses(lots_counts, [1], [bad_counts(1, 60)])


class Numbers(Case):
    def test_there_and_back(self):
        for size in SIZES:
            for number, one in enumerate(plain_groupings(size)):
                self.assertEqual(number_of(one), number)
                self.assertEqual(grouping_at(size, number), one)

    def test_ends(self):
        for size, many in ((1, 1), (2, 2), (3, 5), (4, 15), (5, 52), (6, 203)):
            self.assertEqual(grouping_at(size, 0), alone(size))
            self.assertEqual(grouping_at(size, many - 1), max(plain_groupings(size)))
            for number in (many, -1, many + 1, True, False, None, "0", (0,)):
                self.fails((BadNumber, {}, number), grouping_at, size, number)

    def test_bad_arguments(self):
        self.refuses(number_of, [GOOD], [no_groupings()])
        for size in SIZES:
            self.refuses(grouping_at, [size, 0], [bad_sizes(), bad_numbers(size)])
        self.assertEqual(number_of(grouping_at(6, 201)), 201)


class FinerAndCoarser(Case):
    def test_by_all_of_them(self):
        for size in SIZES:
            for one in plain_groupings(size)[::1 if size < 6 else 3]:
                self.assertEqual(finer_count(one), len(finer_ones(one)))
                self.assertEqual(coarser_count(one), len(coarser_ones(one)))

    def test_ends(self):
        for size in SIZES:
            many = len(plain_groupings(size))
            self.assertEqual([finer_count(alone(size)), coarser_count(alone(size))], [1, many])
            self.assertEqual([finer_count(together(size)), coarser_count(together(size))], [many, 1])

    def test_bad_arguments(self):
        for call in (finer_count, coarser_count, chain_count):
            self.refuses(call, [GOOD], [no_groupings()])


class Chains(Case):
    def test_by_walking(self):
        for size in SIZES:
            joins = [step for step in plain_steps(size) if len(step) == 2]
            ways = {alone(size): 1}
            for _ in range(size):
                later = {}
                for here in ways:
                    self.assertEqual(chain_count(here), ways[here])
                    # Unlike joinings that make the same grouping are one way.
                    for there in {plain_step(here, step) for step in joins} - {here}:
                        later[there] = later.get(there, 0) + ways[here]
                ways = later

    def test_ends(self):
        self.assertEqual([chain_count(alone(size)) for size in SIZES], [1] * 6)
        self.assertEqual([chain_count(together(size)) for size in SIZES], [1, 1, 3, 18, 180, 2700])
        self.assertEqual(chain_count(((0, 1), (2, 3), (4, 5))), 6)


if __name__ == "__main__":
    unittest.main()
