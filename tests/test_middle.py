"""Point 21: groupings in the middle of others, and what stands on shortest rows."""

import unittest
from functools import cache
from random import Random

from groupdeeds.errors import BadGroupings
from groupdeeds.middle import between, farthest_of, middle_ones, round_trip, shortest_count, sum_of_ways
from groupdeeds.moving import distance, way_count
from tests.helpers import SIZES, STRANGE, Case, bad_groupings, bads_of, no_groupings, plain_groupings, plain_rows
from tests.helpers import plain_step
from tests.test_moving import WALKS
from tests.arguments import bad_many

GOOD, OTHER, APART = ((0, 1), (2,)), ((0, 2), (1,)), ((0,), (1,), (2,))
ONLY = ((0,),)


def some_of(size, many, seed):
    """Return so many groupings of a size, always the same ones for a seed."""
    mixed = Random(seed)
    return tuple(mixed.choice(plain_groupings(size)) for _ in range(many))


@cache
def far_from(start):
    """Return a dict of the distances from a grouping to all of its size."""
    return WALKS[sum(len(lot) for lot in start)].far(start)


def shortest_rows(start, goal):
    """Return the lists of the groupings on each shortest row, walking only where the goal comes nearer."""
    if start == goal:
        return [[start]]
    found = []
    for there in WALKS[sum(len(lot) for lot in start)].behind[start]:
        if far_from(there)[goal] == far_from(start)[goal] - 1:
            found.extend([[start] + rest for rest in shortest_rows(there, goal)])
    return found


class Sums(Case):
    def test_example(self):
        got = [sum_of_ways(GOOD, (GOOD, OTHER)), farthest_of(GOOD, (GOOD, OTHER)), middle_ones((GOOD, GOOD, OTHER)),
               between(GOOD, APART), shortest_count(GOOD, APART), round_trip(GOOD, OTHER)]
        self.assertEqual(got, [2, 2, (((0, 1), (2,)),), (((0,), (1,), (2,)), ((0, 1), (2,))), 2, 4])

    def test_by_distances(self):
        for size in SIZES:
            known = plain_groupings(size)
            for many in range(1, 9):
                some = some_of(size, many, many)
                for one in known[::1 + len(known) // 6]:
                    far = far_from(one)
                    ways = [distance(one, other) for other in some]
                    self.assertEqual(ways, [far[other] for other in some])
                    self.assertEqual([sum_of_ways(one, some), farthest_of(one, some)], [sum(ways), max(ways)])

    def test_from_the_grouping_and_not_to_it(self):
        together, pairs = ((0, 1, 2, 3),), ((0, 1), (2, 3))
        self.assertEqual([sum_of_ways(together, (pairs,)), sum_of_ways(pairs, (together,))], [3, 1])
        self.assertEqual([farthest_of(together, (pairs, together)), farthest_of(pairs, (together, pairs))], [3, 1])
        self.assertEqual(middle_ones((pairs, together)), (pairs,))

    def test_middle_ones(self):
        for size in SIZES:
            known = plain_groupings(size)
            for many in range(1, 9):
                for seed in range(3 if size < 6 else 1):
                    some = some_of(size, many, 10 * seed + many)
                    sums = {one: sum(distance(one, other) for other in some) for one in known}
                    want = tuple(one for one in known if sums[one] == min(sums.values()))
                    self.assertEqual(middle_ones(some), want)

    def test_order_of_the_groupings_does_not_matter(self):
        some = some_of(5, 8, 3)
        self.assertEqual(middle_ones(some), middle_ones(some[::-1]))
        self.assertEqual(sum_of_ways(some[0], some), sum_of_ways(some[0], some[::-1]))

    def test_several_middle_ones(self):
        self.assertEqual(middle_ones((((0, 1),), ((0,), (1,)))), (((0,), (1,)), ((0, 1),)))

    def test_one_and_eight(self):
        for size in SIZES:
            for one in plain_groupings(size)[::9]:
                for many in (1, 8):
                    self.assertEqual([sum_of_ways(one, (one,) * many), farthest_of(one, (one,) * many)], [0, 0])
                    self.assertEqual(middle_ones((one,) * many), (one,))
                for some in ((), (one,) * 9):
                    self.fails((BadGroupings, {"index": None}, some), sum_of_ways, one, some)
                    self.fails((BadGroupings, {"index": None}, some), farthest_of, one, some)
                    self.fails((BadGroupings, {"index": None}, some), middle_ones, some)

    def test_bad_arguments(self):
        for size in (1, 2, 3, 6):
            one = plain_groupings(size)[0]
            for call in (sum_of_ways, farthest_of):
                self.refuses(call, [one, (one,)], [no_groupings(), bad_many(BadGroupings, size, 8)])

    def test_bad_arguments_of_middle_ones(self):
        for size in (1, 2, 3, 6):
            one = plain_groupings(size)[0]
            found = [bad for bad in bad_many(BadGroupings, size, 8) if bad[1]["index"] != 0]
            for bad in no_groupings():
                found += bads_of(BadGroupings, ((bad[2],), (bad[2], one), (bad[2],) * 8, (bad[2], None)), index=0)
            self.refuses(middle_ones, [(one,)], [found])

    def test_size_is_that_of_the_first(self):
        for size in SIZES:
            one = plain_groupings(size)[0]
            self.assertEqual(middle_ones((one,)), (one,))
            for other in SIZES:
                if other != size:
                    wrong = plain_groupings(other)[-1]
                    self.fails((BadGroupings, {"index": 1}, None), middle_ones, (one, wrong, one))
                    self.fails((BadGroupings, {"index": 2}, None), middle_ones, (one, one, wrong))
                    self.fails((BadGroupings, {"index": 0}, None), sum_of_ways, one, (wrong, one))

    def test_things_that_are_no_tuples(self):
        for value in STRANGE:
            self.fails((BadGroupings, {"index": None}, value), middle_ones, value)


class Between(Case):
    def check_between(self, start, goal):
        rows = shortest_rows(start, goal)
        self.assertEqual(between(start, goal), tuple(sorted({one for row in rows for one in row})))
        self.assertEqual(shortest_count(start, goal), len(rows))

    def test_by_walking(self):
        for size in (1, 2, 3):
            for start in plain_groupings(size):
                for goal in plain_groupings(size):
                    self.check_between(start, goal)
        for size, part in ((4, 4), (5, 17), (6, 97)):
            known = plain_groupings(size)
            for start in known[::part]:
                for goal in known[::part // 2]:
                    self.check_between(start, goal)

    def test_by_all_rows(self):
        for size in (1, 2, 3):
            for start in plain_groupings(size):
                for goal in plain_groupings(size):
                    far = far_from(start)[goal]
                    passed, count = {start}, 0
                    for row in plain_rows(size, far):
                        trace = [start]
                        for step in row:
                            trace.append(plain_step(trace[-1], step))
                        if trace[-1] == goal:
                            passed.update(trace)
                            count += 1
                    self.assertEqual([between(start, goal), shortest_count(start, goal)], [tuple(sorted(passed)), count])

    def test_by_distances(self):
        for size in (5, 6):
            known = plain_groupings(size)
            for start in known[::41]:
                far = far_from(start)
                for goal in known[::19]:
                    back = {one: distance(one, goal) for one in known}
                    self.assertEqual(between(start, goal),
                                     tuple(one for one in known if far[one] + back[one] == far[goal]))
                    self.assertEqual(shortest_count(start, goal), way_count(start, goal, far[goal]))

    def test_there_already(self):
        for size in SIZES:
            for one in plain_groupings(size)[::7]:
                self.assertEqual([between(one, one), shortest_count(one, one), round_trip(one, one)], [(one,), 1, 0])

    def test_round_trips(self):
        for size in SIZES:
            known = plain_groupings(size)
            for one in known[::1 + len(known) // 9]:
                for other in known[::1 + len(known) // 15]:
                    want = far_from(one)[other] + far_from(other)[one]
                    self.assertEqual(round_trip(one, other), want)
                    self.assertEqual(distance(one, other) + distance(other, one), want)

    def test_size_one(self):
        self.assertEqual([between(ONLY, ONLY), shortest_count(ONLY, ONLY), round_trip(ONLY, ONLY)], [(ONLY,), 1, 0])
        self.assertEqual([sum_of_ways(ONLY, (ONLY,) * 8), middle_ones((ONLY,))], [0, (ONLY,)])

    def test_bad_arguments(self):
        for call in (between, shortest_count, round_trip):
            for size in (1, 2, 3, 6):
                one = plain_groupings(size)[0]
                self.refuses(call, [one, one], [no_groupings(), bad_groupings(size)])


if __name__ == "__main__":
    unittest.main()
