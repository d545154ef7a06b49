"""Point 14: who may leave and who may join, and what steps within that lead to."""

import unittest
from itertools import combinations, product
from random import Random

from groupdeeds.errors import BadRule
from groupdeeds.rules import allowed, dead_ones, rule_distance, rule_reached, rule_row
from tests.helpers import SIZES, Case, bad_groupings, bad_sizes, no_groupings, plain_done, plain_groupings, plain_step
from tests.helpers import plain_steps, walked
from tests.arguments import bad_rules

GOOD = ((0, 1), (2,))


def may(grouping, step, rule):
    """Return whether a rule allows a step for a grouping, be it changed or not."""
    leavers, pairs, most = rule
    if len(step) == 1:
        return step[0] in leavers
    lots = [lot for lot in grouping if step[0] in lot or step[1] in lot]
    return step in pairs and len(lots) == 2 and len(lots[0]) + len(lots[1]) <= most


def plain_allowed(grouping, rule):
    size = sum(len(lot) for lot in grouping)
    return [step for step in plain_steps(size) if may(grouping, step, rule) and plain_step(grouping, step) != grouping]


def some_rule(size, turn):
    """Return a rule of a size, by chance but always the same one for a turn; some let nobody leave or join."""
    mixed = Random(turn)
    share = (0.4, 0.7, 1, 0, 0.9, 0.25)[turn % 6], (0.5, 1, 0.8, 0.6, 0, 0.3)[turn % 5 if turn % 7 else 4]
    leavers = tuple(one for one in range(size) if mixed.random() < share[0])
    pairs = tuple(pair for pair in combinations(range(size), 2) if mixed.random() < share[1])
    return (leavers, pairs, 1 + turn % 6)


def all_rules(size):
    """Return all rules of a size."""
    sides = [side for many in range(size + 1) for side in combinations(range(size), many)]
    pairs = list(combinations(range(size), 2))
    joins = [side for many in range(len(pairs) + 1) for side in combinations(pairs, many)]
    return list(product(sides, joins, range(1, 7)))


class Allowed(Case):
    def test_example(self):
        rule = ((0,), ((0, 1),), 2)
        got = [allowed(GOOD, rule), rule_row(((0,), (1,), (2,)), GOOD, rule),
               rule_distance(GOOD, ((0, 2), (1,)), rule), rule_reached(GOOD, rule), dead_ones(2, ((), (), 1))]
        self.assertEqual(got, [((0,),), ((0, 1),), None, (((0,), (1,), (2,)), ((0, 1), (2,))),
                               (((0,), (1,)), ((0, 1),))])

    def test_by_the_words(self):
        for size in SIZES:
            for turn in range(80 if size < 5 else 20):
                rule = some_rule(size, turn)
                known = plain_groupings(size)
                for grouping in known[turn % 3::1 if size < 4 else 6 + turn]:
                    self.assertEqual(allowed(grouping, rule), tuple(plain_allowed(grouping, rule)))

    def test_dead_ones(self):
        for size in SIZES:
            for turn in range(40 if size < 5 else 7):
                rule = some_rule(size, turn)
                dead = [one for one in plain_groupings(size) if not plain_allowed(one, rule)]
                self.assertEqual(dead_ones(size, rule), tuple(dead))

    def test_nobody_may(self):
        for size in SIZES:
            known = plain_groupings(size)
            for most in (1, 6):
                rule = ((), (), most)
                self.assertEqual(dead_ones(size, rule), tuple(known))
                for one in known[::9]:
                    self.assertEqual([allowed(one, rule), rule_reached(one, rule)], [(), (one,)])
                    self.assertEqual([rule_row(one, one, rule), rule_distance(one, one, rule)], [(), 0])
                    if size > 1:
                        self.assertIsNone(rule_row(one, known[0] if one != known[0] else known[1], rule))

    def test_most_together(self):
        pairs = tuple(combinations(range(6), 2))
        halves, three = ((0, 1, 2), (3, 4, 5)), ((0, 1), (2, 3), (4, 5))
        for most in range(1, 7):
            joins = [step for step in allowed(halves, ((), pairs, most))]
            self.assertEqual(len(joins), 9 if most == 6 else 0)
            self.assertEqual(len(allowed(three, ((), pairs, most))), 12 if most >= 4 else 0)
        self.assertEqual(allowed(((0,), (1,)), ((0, 1), ((0, 1),), 1)), ())
        self.assertEqual(allowed(((0, 1),), ((0, 1), ((0, 1),), 1)), ((0,), (1,)))
        self.assertEqual(allowed(((0,), (1,)), ((0, 1), ((0, 1),), 2)), ((0, 1),))

    def test_bad_arguments(self):
        for size in (1, 2, 3, 6):
            one = plain_groupings(size)[-1]
            rule = ((0,), (), 1)
            self.refuses(allowed, [one, rule], [no_groupings(), bad_rules(size)])
            self.refuses(rule_reached, [one, rule], [no_groupings(), bad_rules(size)])
            self.refuses(dead_ones, [size, rule], [bad_sizes(), bad_rules(size)])
            for call in (rule_row, rule_distance):
                self.refuses(call, [one, one, rule], [no_groupings(), bad_groupings(size), bad_rules(size)])

    def test_first_bad_part(self):
        for rule, index in (((None, None, None), 0), (((), None, None), 1), (((), (), None), 2), (((), ()), None),
                            (((5,), ((4, 5),), 0), 0), (((), ((4, 5),), 0), 1), (((), (), 7), 2), ([(), (), 1], None)):
            self.fails((BadRule, {"index": index}, rule), dead_ones, 4, rule)


class Ways(Case):
    def check_ways(self, size, start, rule):
        """Hold the answers against walking, and rows also against the smallest ones by all steps before the last."""
        far = walked(start, lambda one: [plain_step(one, step) for step in plain_allowed(one, rule)])
        self.assertEqual(rule_reached(start, rule), tuple(sorted(far)))
        first = self.smallest_rows(start, rule)
        for goal in plain_groupings(size):
            self.assertEqual(rule_distance(start, goal, rule), far.get(goal))
            self.assertEqual(rule_row(start, goal, rule), first.get(goal))
            if goal in far:
                self.assertEqual(plain_done(start, first[goal]), goal)
                self.assertEqual(len(first[goal]), far[goal])

    def smallest_rows(self, start, rule):
        rows, fresh = {start: ()}, {start: ()}
        while fresh:
            later = {}
            for here in fresh:
                for step in plain_allowed(here, rule):
                    there, row = plain_step(here, step), fresh[here] + (step,)
                    if there not in rows and (there not in later or row < later[there]):
                        later[there] = row
            rows.update(later)
            fresh = later
        return rows

    def test_all_rules_of_two_people(self):
        for rule in all_rules(2):
            for start in plain_groupings(2):
                self.check_ways(2, start, rule)

    def test_rules_of_three_people(self):
        for at, rule in enumerate(all_rules(3)):
            if at % 3 == 0:
                self.check_ways(3, plain_groupings(3)[at % 5], rule)

    def test_some_rules(self):
        for size, many in ((1, 12), (4, 40), (5, 12), (6, 2)):
            known = plain_groupings(size)
            for turn in range(many):
                rule = some_rule(size, turn)
                self.check_ways(size, known[turn * 7 % len(known)], rule)

    def test_rows_of_allowed_steps_only(self):
        """The way is longer where a rule is in the way."""
        good, goal = ((0, 1), (2,)), ((0, 2), (1,))
        self.assertEqual(rule_row(good, goal, ((0, 1, 2), ((0, 1), (0, 2), (1, 2)), 3)), ((0,), (0, 2)))
        self.assertEqual(rule_row(good, goal, ((1,), ((0, 2),), 3)), ((0, 2), (1,)))
        self.assertEqual(rule_row(good, goal, ((1,), ((0, 2),), 2)), ((1,), (0, 2)))
        self.assertEqual(rule_row(good, goal, ((1,), ((0, 1), (1, 2)), 2)), None)
        self.assertEqual(rule_row(good, goal, ((1,), ((0, 1), (1, 2)), 3)), ((1, 2), (1,)))
        self.assertEqual(rule_row(good, goal, ((1,), ((1, 2),), 2)), None)
        self.assertEqual(rule_row(good, goal, ((), ((0, 2),), 3)), None)

    def test_the_longest_way(self):
        """No rule of 6 people makes a longer way than this one; 40 steps are always enough."""
        rule = ((0, 1, 2, 3, 5), ((0, 3), (0, 4), (0, 5), (1, 2), (1, 4), (2, 3)), 4)
        start, goal = ((0, 1, 2, 3, 4, 5),), ((0, 2), (1, 3, 4, 5))
        self.assertEqual(rule_distance(start, goal, rule), 31)
        row = rule_row(start, goal, rule)
        self.assertEqual(len(row), 31)
        here = start
        for step in row:
            self.assertTrue(may(here, step, rule))
            here = plain_step(here, step)
        self.assertEqual(here, goal)


if __name__ == "__main__":
    unittest.main()
