"""Point 9: how few steps lead from one grouping to another, and how many rows do."""

import unittest
from itertools import product

from groupdeeds.moving import around, distance, farthest, fewest, shows_fewest, way_count
from groupdeeds.order import shares
from tests.helpers import ANY_VALUES, SIZES, Case, bad_counts, bad_groupings, bad_rows, no_groupings, plain_done
from tests.helpers import plain_groupings, plain_rows, plain_step, plain_steps, walked

GOOD, OTHER, ALL = ((0, 1), (2,)), ((0, 2), (1,)), ((0, 1, 2),)


class Walks:
    """All distances of a size, by walking from each grouping along all steps."""

    def __init__(self, size):
        self.known = plain_groupings(size)
        self.steps = plain_steps(size)
        self.behind = {one: [plain_step(one, step) for step in self.steps] for one in self.known}

    def far(self, start):
        return walked(start, self.behind.get)


WALKS = {size: Walks(size) for size in SIZES}


def starts(size):
    """Return the groupings to start from: all of small sizes, some of the greater ones."""
    return WALKS[size].known[::{5: 4, 6: 15}.get(size, 1)]


class Distances(Case):
    def test_example(self):
        got = [distance(GOOD, OTHER), fewest(GOOD, OTHER), farthest(ALL), len(around(GOOD, 1)),
               way_count(GOOD, ALL, 1)]
        self.assertEqual(got, [2, ((0,), (0, 2)), 2, 2, 2])

    def test_distance_by_walking(self):
        for size in SIZES:
            for start in starts(size):
                far = WALKS[size].far(start)
                for goal in WALKS[size].known:
                    self.assertEqual(distance(start, goal), far[goal])

    def test_distance_by_the_words(self):
        for start in starts(6):
            for goal in WALKS[6].known[::3]:
                want = 2 * 6 - 2 * sum(shares(start, goal)) + len(start) - len(goal)
                self.assertEqual(distance(start, goal), want)

    def test_farthest_and_around(self):
        for size in SIZES:
            for start in starts(size):
                far = WALKS[size].far(start)
                self.assertEqual(farthest(start), max(far.values()))
                for many in range(10):
                    self.assertEqual(around(start, many), tuple(one for one in sorted(far) if far[one] == many))

    def test_around_at_the_bounds(self):
        for size in SIZES:
            for start in starts(size)[::2]:
                self.assertEqual(around(start, 0), (start,))
                self.assertEqual(around(start, 20), ())
        self.refuses(around, [GOOD, 0], [no_groupings(), bad_counts(0, 20)])

    def test_size_one(self):
        only = ((0,),)
        self.assertEqual([distance(only, only), fewest(only, only), farthest(only), around(only, 0), around(only, 1)],
                         [0, (), 0, (only,), ()])
        self.assertEqual([way_count(only, only, many) for many in (0, 1, 12)], [1, 1, 1])

    def test_bad_arguments(self):
        for grouping in (((0,),), ((0, 1),), GOOD):
            size = sum(len(lot) for lot in grouping)
            both = [no_groupings(), bad_groupings(size)]
            self.refuses(distance, [grouping, grouping], both)
            self.refuses(fewest, [grouping, grouping], both)
            self.refuses(shows_fewest, [grouping, grouping, ()], both + [[]])
            self.refuses(way_count, [grouping, grouping, 0], both + [bad_counts(0, 12)])
        self.refuses(farthest, [GOOD], [no_groupings()])


class Fewest(Case):
    def test_all_short_rows(self):
        """The first row, the shorter ones first, that makes the goal."""
        for size, most in ((1, 1), (2, 2), (3, 3), (4, 3)):
            for start in starts(size):
                first = {}
                for many in range(most + 1):
                    for row in product(plain_steps(size), repeat=many):
                        first.setdefault(plain_done(start, row), row)
                for goal in first:
                    self.assertEqual(fewest(start, goal), first[goal])

    def test_smallest_by_walking(self):
        for size in (4, 5, 6):
            for start in starts(size)[::2]:
                for goal in WALKS[size].known[::3 if size == 4 else 19]:
                    row = fewest(start, goal)
                    self.assertEqual(row, self.first_row(size, start, goal))
                    self.assertIs(shows_fewest(start, goal, row), True)

    def first_row(self, size, start, goal):
        """Return the smallest shortest row: those to each grouping, kept while walking in ascending order."""
        rows = {start: ()}
        fresh = [start]
        while goal not in rows:
            later = {}
            for here in fresh:
                for step, there in zip(WALKS[size].steps, WALKS[size].behind[here]):
                    if there not in rows:
                        later[there] = min(later.get(there, ((9,),)), rows[here] + (step,))
            rows.update(later)
            fresh = list(later)
        return rows[goal]

    def test_shows_of_all_short_rows(self):
        for size, most in ((1, 2), (2, 3), (3, 3)):
            for start in starts(size):
                far = WALKS[size].far(start)
                for many in range(most + 1):
                    for row in plain_rows(size, many):
                        for goal in WALKS[size].known:
                            want = plain_done(start, row) == goal and many == far[goal]
                            self.assertIs(shows_fewest(start, goal, row), want)

    def test_near_values(self):
        self.assertIs(shows_fewest(GOOD, OTHER, ((1,), (0, 2))), True)
        self.assertIs(shows_fewest(GOOD, OTHER, ((0, 2), (1,))), True)
        self.refuses_last(shows_fewest, [GOOD, OTHER], [
            ((0,), (0, 1)), ((0,), (1, 2)), ((2,), (0, 2)), [(0,), (0, 2)], ([0], (0, 2)), ((0,), [0, 2]), ((0,),),
            ((False,), (0, 2)), ((True,), (0, 2)), ((0,), (2, 0)), ((0,), (0, 2), (1,)), ((0,), (0, 2), (0, 2)), None,
            ((0,), (0, 2), ()), ((0,), (0, 3)), ((0,), None), "0- 0+2", (), 2])
        self.refuses_last(shows_fewest, [GOOD, GOOD], [((2,),), ((0, 1),), None, False, 0, "", [], {}, ((),)])
        self.refuses_last(shows_fewest, [GOOD, OTHER], [bad[2] for bad in bad_rows(3)])

    def test_any_value(self):
        for value in ANY_VALUES:
            self.assertIs(shows_fewest(GOOD, GOOD, value), isinstance(value, tuple) and value == ())
            self.assertIn(shows_fewest(((0, 1),), ((0,), (1,)), value), (True, False))
            self.assertIs(shows_fewest(ALL, OTHER, value), False)


class Ways(Case):
    def test_all_rows(self):
        for size, most in ((1, 4), (2, 5), (3, 4), (4, 3)):
            for many in range(most + 1):
                for start in starts(size)[::4 if size == 4 else 1]:
                    ends = [plain_done(start, row) for row in plain_rows(size, many)]
                    for goal in WALKS[size].known:
                        self.assertEqual(way_count(start, goal, many), ends.count(goal))

    def test_by_walking(self):
        for size in (3, 5, 6):
            start = WALKS[size].known[len(WALKS[size].known) // 2]
            ways = {start: 1}
            for many in range(13):
                for goal in list(ways)[::40]:
                    self.assertEqual(way_count(start, goal, many), ways[goal])
                later = {}
                for here in ways:
                    for there in WALKS[size].behind[here]:
                        later[there] = later.get(there, 0) + ways[here]
                ways = later

    def test_no_steps_and_too_few(self):
        for goal in WALKS[3].known:
            self.assertEqual(way_count(GOOD, goal, 0), 1 if goal == GOOD else 0)
        self.assertEqual(way_count(ALL, ((0,), (1,), (2,)), 1), 0)

    def test_all_ways_together(self):
        self.assertEqual(sum(way_count(GOOD, goal, 12) for goal in WALKS[3].known), 6 ** 12)


if __name__ == "__main__":
    unittest.main()
