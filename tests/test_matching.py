"""Point 28: moves of single people, groups matched with groups, and papers for the best matching."""

import unittest
from fractions import Fraction
from itertools import combinations, product
from random import Random

from groupdeeds.matching import best_matching, match_paper, move_distance, shows_best_matching, shows_match_paper
from tests.helpers import ANY_VALUES, HUGE, SIZES, Case, bad_groupings, no_groupings, plain_groupings, walked
from tests.arguments import as_fraction, as_ratio

GOOD, OTHER, APART, ALL = ((0, 1), (2,)), ((0, 2), (1,)), ((0,), (1,), (2,)), ((0, 1, 2),)
ONLY = ((0,),)


def moved(grouping):
    """Return all groupings that one move makes of a grouping."""
    found = []
    for lot in grouping:
        for person in lot:
            rest = [tuple(one for one in some if one != person) for some in grouping]
            for at in range(len(rest)):
                if person not in grouping[at]:
                    lots = [some + (person,) if at == place else some for place, some in enumerate(rest)]
                    found.append(tuple(sorted(tuple(sorted(some)) for some in lots if some)))
            found.append(tuple(sorted([some for some in rest if some] + [(person,)])))
    return found


def in_both(one, other):
    """Return a dict with the number of people in both of each two groups, by their indexes."""
    return {(at, place): len(set(lot) & set(wide)) for at, lot in enumerate(one) for place, wide in enumerate(other)}


def all_matchings(one, other):
    """Return all ascending tuples of pairs of indexes, none twice on a side."""
    indexes, found = list(product(range(len(one)), range(len(other)))), []
    for many in range(min(len(one), len(other)) + 1):
        for pairs in combinations(indexes, many):
            if len({pair[0] for pair in pairs}) == len({pair[1] for pair in pairs}) == many:
                found.append(pairs)
    return found


def most_kept(one, other):
    """Return the most people kept, group by group: each group of the one has one left of the other, or none."""
    shared = in_both(one, other)
    best = {frozenset(): 0}
    for at in range(len(one)):
        later = dict(best)
        for used, kept in best.items():
            for place in range(len(other)):
                if place not in used:
                    key = used | {place}
                    later[key] = max(later.get(key, 0), kept + shared[at, place])
        best = later
    return max(best.values())


def some_pairs(size, many, seed):
    mixed = Random(seed)
    known = plain_groupings(size)
    return [(mixed.choice(known), mixed.choice(known)) for _ in range(many)]


def tried():
    """Return pairs of groupings: all of few people, some of more."""
    found = [(one, other) for size in (1, 2, 3) for one in plain_groupings(size) for other in plain_groupings(size)]
    return found + some_pairs(4, 80, 1) + some_pairs(5, 60, 2) + some_pairs(6, 60, 3) + [
        (tuple((one,) for one in range(6)), (tuple(range(6)),)), ((tuple(range(6)),), tuple((one,) for one in range(6))),
        (((0, 1, 2), (3, 4, 5)), ((0, 3), (1, 4), (2, 5))), (((0, 3), (1, 4), (2, 5)), ((0, 1, 2), (3, 4, 5))),
        (((0, 1, 2), (3, 4), (5,)), ((0, 3, 5), (1, 4), (2,))), (tuple((one,) for one in range(6)),) * 2]


class Moves(Case):
    def test_example(self):
        got = [move_distance(GOOD, OTHER), best_matching(GOOD, OTHER)[0],
               shows_match_paper(GOOD, OTHER, (((1, 1), (1, 1)), ((0, 1), (0, 1))))]
        self.assertEqual(got, [1, 2, True])

    def test_by_walking(self):
        for size in SIZES:
            known = plain_groupings(size)
            behind = {one: moved(one) for one in known}
            for start in known[::{5: 3, 6: 17}.get(size, 1)]:
                far = walked(start, behind.get)
                for goal in known[::2 if size == 6 else 1]:
                    self.assertEqual(move_distance(start, goal), far[goal])

    def test_by_the_words(self):
        for one, other in tried():
            size = sum(len(lot) for lot in one)
            self.assertEqual(move_distance(one, other), size - most_kept(one, other))
            self.assertEqual(move_distance(other, one), move_distance(one, other))

    def test_ends(self):
        for size in SIZES:
            alone, together = tuple((one,) for one in range(size)), (tuple(range(size)),)
            self.assertEqual([move_distance(alone, together), move_distance(together, alone)], [size - 1] * 2)
            for one in plain_groupings(size)[::9]:
                self.assertEqual(move_distance(one, one), 0)

    def test_bad_arguments(self):
        for call in (move_distance, best_matching, match_paper):
            for size in (1, 2, 3, 6):
                one = plain_groupings(size)[0]
                self.refuses(call, [one, one], [no_groupings(), bad_groupings(size)])
        for call in (shows_best_matching, shows_match_paper):
            for size in (1, 2, 6):
                one = plain_groupings(size)[0]
                self.refuses(call, [one, one, None], [no_groupings(), bad_groupings(size), []])


class Matchings(Case):
    def test_by_all_matchings(self):
        for one, other in tried():
            shared = in_both(one, other)
            most = most_kept(one, other)
            if len(one) * len(other) <= 9:
                self.assertEqual(max(sum(shared[pair] for pair in pairs) for pairs in all_matchings(one, other)), most)
            got = best_matching(one, other)
            self.assertEqual([type(got), len(got), type(got[0]), type(got[1])], [tuple, 2, int, tuple])
            self.assertEqual([got[0], sum(shared[pair] for pair in got[1])], [most, most])
            self.assertEqual(list(got[1]), sorted(got[1]))
            for side in (0, 1):
                self.assertEqual(len({pair[side] for pair in got[1]}), len(got[1]))
            self.assertIs(shows_best_matching(one, other, got), True)

    def test_shows_of_all_matchings(self):
        for one, other in tried():
            if len(one) * len(other) <= 9:
                shared, most = in_both(one, other), most_kept(one, other)
                for pairs in all_matchings(one, other):
                    kept = sum(shared[pair] for pair in pairs)
                    for told in (kept, most, kept + 1, most - 1):
                        self.assertIs(shows_best_matching(one, other, (told, pairs)), told == kept == most)

    def test_pairs_that_keep_nobody(self):
        one, other = ((0, 1, 2), (3,)), ((0, 1, 3), (2,))
        for pairs, want in ((((0, 0),), True), (((0, 0), (1, 1)), True), (((0, 1), (1, 0)), True), (((1, 1),), False)):
            self.assertIs(shows_best_matching(one, other, (2, pairs)), want)

    def test_unlike_numbers_of_groups(self):
        one, other = ((0,), (1, 2), (3,)), ((0, 3), (1, 2))
        for pairs, want in ((((0, 0), (1, 1)), True), (((1, 1), (2, 0)), True), (((0, 1), (1, 0)), False)):
            self.assertIs(shows_best_matching(one, other, (3, pairs)), want)
        self.assertEqual([best_matching(one, other)[0], best_matching(other, one)[0]], [3, 3])
        self.assertEqual(best_matching(GOOD, ALL), (2, ((0, 0),)))
        self.assertEqual(best_matching(ALL, GOOD), (2, ((0, 0),)))

    def test_near_values(self):
        good = ((0, 0), (1, 1))
        self.assertEqual(best_matching(GOOD, GOOD), (3, good))
        self.assertIs(shows_best_matching(GOOD, GOOD, (3, good)), True)
        self.refuses_last(shows_best_matching, [GOOD, GOOD], [
            (2, good), (4, good), (3, good[::-1]), (3, list(good)), [3, good], (3, ([0, 0], (1, 1))), (3, good, 0), (3,),
            (3, ((0, 0), (1, True))), (3, ((0, False), (1, 1))), (3, ((0, 0),)), (2, ((0, 0),)), (3, ((0, 0), (1, 2))),
            (3, ((0, 0), (2, 1))), (3, ((0, 0), (0, 1))), (3, ((0, 0), (1, 0))), (3, ((0, 0), (0, 0), (1, 1))), (3, ()),
            (3, ((0, 0), (1, 1), (1, 1))), (3, ((0, 1), (1, 0))), (0, ((0, 1), (1, 0))), (None, good), ("3", good),
            (3, None), (3, 3), None, 3, (3, ((0, 0), None)), (3, ((0, 0), (1,))), (3, ((0, 0), (1, 1, 1))), (good, 3),
            (3, ((-1, -1), (0, 0))), (3, ((0, 0), (1, HUGE))), {3: good}, (True, good), (3, "0011"), (0, ())])
        self.assertIs(shows_best_matching(ONLY, ONLY, (1, ((0, 0),))), True)
        self.refuses_last(shows_best_matching, [ONLY, ONLY], [(True, ((0, 0),)), (1, ((False, 0),)), (1, ()), (0, ())])

    def test_any_value(self):
        for value in ANY_VALUES:
            self.assertIs(shows_best_matching(GOOD, OTHER, value), False)
            self.assertIs(shows_match_paper(GOOD, OTHER, value), False)


class Papers(Case):
    def is_paper(self, one, other, firsts, seconds):
        if min(firsts + seconds) < 0 or sum(firsts) + sum(seconds) != most_kept(one, other):
            return False
        return all(firsts[at] + seconds[place] >= many for (at, place), many in in_both(one, other).items())

    def test_by_every_two_groups_and_the_sum(self):
        for one, other in tried():
            got = match_paper(one, other)
            self.assertEqual([type(got), len(got), type(got[0]), type(got[1])], [tuple, 2, tuple, tuple])
            firsts, seconds = [[as_fraction(self, number) for number in side] for side in got]
            self.assertEqual([len(firsts), len(seconds)], [len(one), len(other)])
            self.assertTrue(self.is_paper(one, other, firsts, seconds))
            self.assertIs(shows_match_paper(one, other, got), True)

    def test_all_papers_of_integers_and_halves(self):
        numbers = [Fraction(half, 2) for half in range(-1, 5)]
        for one, other in ((GOOD, OTHER), (GOOD, ALL), (ALL, GOOD), (((0,), (1,)), ((0, 1),)), (((0, 1),), ((0, 1),)),
                           (((0,), (1,)), ((0,), (1,)))):
            right = 0
            for found in product(numbers, repeat=len(one) + len(other)):
                firsts, seconds = list(found[:len(one)]), list(found[len(one):])
                want = self.is_paper(one, other, firsts, seconds)
                value = tuple(tuple(as_ratio(number) for number in side) for side in (firsts, seconds))
                self.assertIs(shows_match_paper(one, other, value), want)
                right += want
            self.assertGreater(right, 0)

    def test_other_papers(self):
        half, third = (1, 2), (1, 3)
        self.assertIs(shows_match_paper(GOOD, OTHER, ((half, half), (half, half))), True)
        self.assertIs(shows_match_paper(GOOD, OTHER, (((1, 1), (0, 1)), ((1, 1), (0, 1)))), True)
        self.assertIs(shows_match_paper(GOOD, OTHER, (((2, 3), third), ((2, 3), third))), True)
        self.assertIs(shows_match_paper(GOOD, OTHER, (((2, 3), third), ((2, 3), half))), False)
        self.assertIs(shows_match_paper(GOOD, OTHER, ((third, (2, 3)), ((2, 3), third))), False)
        self.assertIs(shows_match_paper(ONLY, ONLY, (((1, 7),), ((6, 7),))), True)
        self.assertIs(shows_match_paper(ONLY, ONLY, (((-1, 7),), ((8, 7),))), False)
        self.assertIs(shows_match_paper(ONLY, ONLY, (((8, 7),), ((-1, 7),))), False)

    def test_one_number_changed(self):
        for one, other in tried()[::3]:
            paper = match_paper(one, other)
            for side in (0, 1):
                for at in range(len(paper[side])):
                    for more in (Fraction(-1), Fraction(-1, 3), Fraction(1, 7), Fraction(1)):
                        sides = [list(found) for found in paper]
                        sides[side][at] = as_ratio(Fraction(*sides[side][at]) + more)
                        self.assertIs(shows_match_paper(one, other, tuple(tuple(found) for found in sides)), False)

    def test_near_values(self):
        good = (((1, 1), (1, 1)), ((0, 1), (0, 1)))
        self.assertIs(shows_match_paper(GOOD, OTHER, good), True)
        self.refuses_last(shows_match_paper, [GOOD, OTHER], [
            list(good), good + ((),), good[:1], good[::-1][:1], (list(good[0]), good[1]), (good[0], list(good[1])),
            (((2, 2), (1, 1)), good[1]), (((1, 1), (1, True)), good[1]), (((1, 1), (True, 1)), good[1]), (1, good[1]),
            (((-1, -1), (1, 1)), good[1]), (good[0], ((0, 1), (0, 2))), (good[0], ((0, 1), (0, -1))), (good[0], None),
            (good[0], ((0, 1), (0, 0))), (good[0], ((0, 1),)), (good[0] + ((0, 1),), good[1]), (good[0][:1], good[1]),
            (good[0], good[1] + ((0, 1),)), (([1, 1], (1, 1)), good[1]), ((1, 1), (0, 0)), (good[0], ((0, 1), None)),
            (((1, 1), (2, 1)), good[1]), (((1, 1), (0, 1)), good[1]), (good[0], ((1, 1), (0, 1))), None, 2, (), ((), ()),
            (((1, 1), (1, 1, 1)), good[1]), (((1, 1), ("1", 1)), good[1]), (((HUGE, 1), (1, 1)), good[1]), "10",
            {0: good[0], 1: good[1]}, (((3, 1), (1, 1)), ((-1, 1), (-1, 1))), (((0, 1), (False, 1)), ((2, 1), (0, 1)))])

    def test_sides_of_unlike_length(self):
        self.assertIs(shows_match_paper(GOOD, ALL, (((2, 1), (1, 1)), ((0, 1),))), False)
        self.assertIs(shows_match_paper(GOOD, ALL, (((0, 1), (0, 1)), ((2, 1),))), True)
        self.assertIs(shows_match_paper(GOOD, ALL, (((1, 1), (0, 1)), ((1, 1),))), True)
        self.assertIs(shows_match_paper(GOOD, ALL, (((2, 1),), ((0, 1), (0, 1)))), False)
        self.assertIs(shows_match_paper(ALL, GOOD, (((2, 1),), ((0, 1), (0, 1)))), True)


if __name__ == "__main__":
    unittest.main()
