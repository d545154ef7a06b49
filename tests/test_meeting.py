"""Point 12: two groupings, or all, behind the same steps by chance."""

import unittest
from fractions import Fraction

from groupdeeds.errors import TooMany
from groupdeeds.meeting import apart_chance, forgotten_chance, mean_meeting, tie_chances
from tests.helpers import Case, bad_counts, bad_groupings, bad_sizes, no_groupings, plain_after, plain_done
from tests.helpers import plain_drawn, plain_groupings, plain_idle, plain_row_drawing, plain_step, plain_step_drawing
from tests.helpers import plain_steps, tie_number
from tests.test_chances import chances_of_rows
from tests.arguments import UNLIKE, as_fraction, as_ratio, bad_weights, some_weights

APART, PAIR = ((0,), (1,)), ((0, 1),)
THIRDS = ((1, 3),) * 3


def drawings_a_step_more(size, chances, weights):
    later = {}
    for made in chances:
        for step, weight in zip(plain_steps(size), weights):
            there = plain_after(made, plain_step_drawing(size, step))
            later[there] = later.get(there, 0) + chances[made] * Fraction(*weight)
    return later


class ApartChances(Case):
    def test_example(self):
        got = [apart_chance(APART, PAIR, THIRDS, 1), mean_meeting(APART, PAIR, THIRDS), tie_chances(2, THIRDS, 1),
               forgotten_chance(2, THIRDS, 0)]
        self.assertEqual(got, [(0, 1), (1, 1), ((0, 1), (1, 1), (0, 1)), (0, 1)])

    def test_all_rows(self):
        for size, most, turn in ((1, 3, 1), (2, 4, 1), (3, 3, 1), (4, 2, 4)):
            known = plain_groupings(size)
            for weights in some_weights(size)[-2:]:
                for many in range(most + 1):
                    rows = chances_of_rows(size, weights, many)
                    ends = {one: [plain_done(one, row) for row, _ in rows] for one in known[::turn]}
                    for one in ends:
                        for other in ends:
                            want = sum(chance for (_, chance), there, here in zip(rows, ends[one], ends[other])
                                       if there != here)
                            got = as_fraction(self, apart_chance(one, other, weights, many))
                            self.assertEqual(got, want)

    def test_a_step_more_each_time(self):
        for size, turn in ((2, 1), (3, 1), (4, 5)):
            known = plain_groupings(size)
            steps = plain_steps(size)
            behind = {one: [plain_step(one, step) for step in steps] for one in known}
            for weights in (some_weights(size)[1], UNLIKE[size]):
                for one, other in zip(known[::turn], known[::-turn]):
                    chances = {(one, other): Fraction(1)}
                    for many in range(13):
                        want = sum(chances[here, there] for here, there in chances if here != there)
                        self.assertEqual(apart_chance(one, other, weights, many), as_ratio(want))
                        later = {}
                        for here, there in chances:
                            for pair, weight in zip(zip(behind[here], behind[there]), weights):
                                later[pair] = later.get(pair, 0) + chances[here, there] * Fraction(*weight)
                        chances = later

    def test_the_same(self):
        for size in (1, 2, 3, 4):
            for one in plain_groupings(size)[::2]:
                for many in (0, 1, 12):
                    self.assertEqual(apart_chance(one, one, some_weights(size)[0], many), (0, 1))

    def test_no_steps(self):
        self.assertEqual(apart_chance(PAIR, APART, THIRDS, 0), (1, 1))

    def test_too_many(self):
        for size in (5, 6):
            known, weights = plain_groupings(size), some_weights(size)[0]
            self.fails((TooMany, {"most": 4}, size), apart_chance, known[0], known[-1], weights, 3)
            self.fails((TooMany, {"most": 4}, size), apart_chance, known[0], known[0], weights, 0)

    def test_bad_arguments(self):
        for size in (1, 2, 4, 5):
            one = plain_groupings(size)[-1]
            bads = [no_groupings(), bad_groupings(size), bad_weights(size), bad_counts(0, 12)]
            self.refuses(apart_chance, [one, one, some_weights(size)[1], 2], bads)


class MeanMeeting(Case):
    def test_by_what_comes_next(self):
        for size in (1, 2, 3):
            known = plain_groupings(size)
            for weights in some_weights(size):
                means = {(one, other): as_fraction(self, mean_meeting(one, other, weights))
                         for one in known for other in known}
                for one, other in means:
                    if one == other:
                        self.assertEqual(means[one, other], 0)
                        continue
                    ends = [means[plain_step(one, step), plain_step(other, step)] for step in plain_steps(size)]
                    want = 1 + sum(Fraction(*weight) * end for weight, end in zip(weights, ends))
                    self.assertEqual(means[one, other], want)

    def test_the_same_and_unlike(self):
        self.assertEqual(mean_meeting(((0,),), ((0,),), ((1, 1),)), (0, 1))
        self.assertEqual(mean_meeting(PAIR, PAIR, THIRDS), (0, 1))
        self.assertEqual(mean_meeting(PAIR, APART, UNLIKE[2]), (1, 1))

    def test_too_many(self):
        for size in (4, 5, 6):
            known, weights = plain_groupings(size), some_weights(size)[0]
            self.fails((TooMany, {"most": 3}, size), mean_meeting, known[0], known[-1], weights)
            self.fails((TooMany, {"most": 3}, size), mean_meeting, known[0], known[0], weights)

    def test_bad_arguments(self):
        for size in (1, 3, 4, 6):
            one = plain_groupings(size)[-1]
            bads = [no_groupings(), bad_groupings(size), bad_weights(size)]
            self.refuses(mean_meeting, [one, one, some_weights(size)[1]], bads)


class Ties(Case):
    def check_ties(self, size, weights, many, chances):
        """Hold the answers against the chances of all drawings."""
        want = [sum(chances[made] for made in chances if tie_number(made) == ties) for ties in range(size + 1)]
        got = tie_chances(size, weights, many)
        self.assertIs(type(got), tuple)
        self.assertEqual([as_fraction(self, one) for one in got], want)
        known = plain_groupings(size)
        same = [made for made in chances if len({plain_drawn(made, one) for one in known}) == 1]
        got = as_fraction(self, forgotten_chance(size, weights, many))
        self.assertEqual(got, sum(chances[made] for made in same))

    def test_all_rows(self):
        for size, most in ((1, 3), (2, 4), (3, 3)):
            for weights in some_weights(size)[-2:]:
                for many in range(most + 1):
                    chances = {}
                    for row, chance in chances_of_rows(size, weights, many):
                        made = plain_row_drawing(size, row)
                        chances[made] = chances.get(made, 0) + chance
                    self.check_ties(size, weights, many, chances)

    def test_a_step_more_each_time(self):
        for size in (1, 2, 3):
            for weights in (some_weights(size)[0], UNLIKE[size]):
                chances = {plain_idle(size): Fraction(1)}
                for many in range(9):
                    self.check_ties(size, weights, many, chances)
                    chances = drawings_a_step_more(size, chances, weights)

    def test_size_one(self):
        for many in (0, 1, 8):
            self.assertEqual(tie_chances(1, ((1, 1),), many), ((0, 1), (1, 1)) if many == 0 else ((1, 1), (0, 1)))
            self.assertEqual(forgotten_chance(1, ((1, 1),), many), (1, 1))

    def test_no_steps(self):
        for size in (2, 3):
            self.assertEqual(tie_chances(size, UNLIKE[size], 0), ((0, 1),) * size + ((1, 1),))
            self.assertEqual(forgotten_chance(size, UNLIKE[size], 0), (0, 1))

    def test_too_many(self):
        for size in (4, 5, 6):
            for call in (tie_chances, forgotten_chance):
                for many in (0, 8):
                    self.fails((TooMany, {"most": 3}, size), call, size, some_weights(size)[0], many)

    def test_bad_arguments(self):
        for size in (1, 3, 4, 6):
            for call in (tie_chances, forgotten_chance):
                bads = [bad_sizes(), bad_weights(size), bad_counts(0, 8)]
                self.refuses(call, [size, some_weights(size)[1], 2], bads)


if __name__ == "__main__":
    unittest.main()
