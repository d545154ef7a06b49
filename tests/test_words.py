"""Point 29: words of groupings, and crowds."""

import unittest
from itertools import product
from random import Random

from groupdeeds.errors import BadCrowd, BadWord
from groupdeeds.moving import distance
from groupdeeds.order import shares
from groupdeeds.words import crowd_distance, crowd_groups, crowd_shares, crowd_word, grouping_of, word_of
from tests.helpers import HUGE, SIZES, STRANGE, Case, no_groupings, plain_groupings
from tests.arguments import bad_crowds, bad_words


def plain_words(size):
    """Return all words of a size, by their rule alone."""
    found = []
    for word in product(range(size), repeat=size):
        if word[0] == 0 and all(word[at] <= max(word[:at]) + 1 for at in range(1, size)):
            found.append(word)
    return found


def some_crowd(many, names, seed):
    """Return a crowd of so many people and of at most so many groups, with names from all that there are."""
    mixed = Random(seed)
    known = [0, 999][:names] + mixed.sample(range(1, 999), max(0, names - 2))
    return tuple(mixed.choice(known) for _ in range(many))


def plain_crowd_distance(one, other):
    """Return the steps: who is not in the greatest part of its group leaves, and all that is left apart joins."""
    leavers, parts = 0, 0
    for name in set(one):
        found = [twin for first, twin in zip(one, other) if first == name]
        most = max(found.count(twin) for twin in set(found))
        leavers += len(found) - most
        parts += 1 + len(found) - most
    return leavers + parts - len(set(other))


class Words(Case):
    def test_example(self):
        got = [word_of(((0, 2), (1,))), grouping_of((0, 1, 0)), crowd_word((7, 3, 7)), crowd_groups((7, 3, 7)),
               crowd_distance((0, 0, 1), (0, 1, 0)), crowd_shares((0, 0), (5, 6))]
        self.assertEqual(got, [(0, 1, 0), ((0, 2), (1,)), (0, 1, 0), 2, 2, ((0, 5, 1), (0, 6, 1))])

    def test_there_and_back(self):
        for size in SIZES:
            words = []
            for one in plain_groupings(size):
                word = word_of(one)
                self.assertIs(type(word), tuple)
                self.assertEqual(list(word), [[person in lot for lot in one].index(True) for person in range(size)])
                self.assertEqual(grouping_of(word), one)
                words.append(word)
            self.assertEqual(sorted(words), plain_words(size))

    def test_back_and_there(self):
        for size in SIZES:
            for word in plain_words(size):
                self.assertEqual(word_of(grouping_of(word)), word)

    def test_all_tuples_of_small_numbers(self):
        for size in (1, 2, 3, 4):
            words = plain_words(size)
            for word in product(range(-1, 5), repeat=size):
                if word in words:
                    self.assertEqual(word_of(grouping_of(word)), word)
                else:
                    self.fails((BadWord, {}, word), grouping_of, word)

    def test_ends(self):
        self.assertEqual([grouping_of((0,)), word_of(((0,),))], [((0,),), (0,)])
        self.assertEqual(grouping_of((0,) * 6), (tuple(range(6)),))
        self.assertEqual(grouping_of(tuple(range(6))), tuple((one,) for one in range(6)))
        for word in ((), (0,) * 7, tuple(range(7)), (1,), (0, 2), (0, 1, 3), (0, 0, -1)):
            self.fails((BadWord, {}, word), grouping_of, word)

    def test_bad_arguments(self):
        self.refuses(word_of, [((0,),)], [no_groupings()])
        self.refuses(grouping_of, [(0,)], [bad_words()])


class Crowds(Case):
    def test_held_against_groupings(self):
        for size in SIZES:
            known = plain_groupings(size)
            for seed, one in enumerate(known[::1 + len(known) // 20]):
                word = word_of(one)
                names = Random(seed).sample(range(1000), 6)
                crowd = tuple(names[mark] for mark in word)
                self.assertEqual([crowd_word(word), crowd_word(crowd), crowd_groups(crowd)], [word, word, len(one)])
                for turn, other in enumerate(known[::1 + len(known) // 30]):
                    twins = Random(1000 + turn).sample(range(1000), 6)
                    second = tuple(twins[mark] for mark in word_of(other))
                    self.assertEqual(crowd_distance(crowd, second), distance(one, other))
                    shared = crowd_shares(crowd, second)
                    most = [max(many for name, _, many in shared if name == names[at]) for at in range(len(one))]
                    self.assertEqual(tuple(most), shares(one, other))

    def test_words_of_great_crowds(self):
        for many in (1, 2, 7, 60, 199, 200):
            for names in (1, 2, 5, 200):
                crowd = some_crowd(many, names, many + names)
                word = crowd_word(crowd)
                self.assertEqual([type(word), len(word), crowd_groups(crowd)], [tuple, many, len(set(crowd))])
                for at in range(many):
                    fresh = crowd[at] not in crowd[:at]
                    self.assertEqual(word[at], len(set(crowd[:at])) if fresh else word[crowd.index(crowd[at])])

    def test_other_names_mean_the_same(self):
        for seed in range(20):
            crowd, other = some_crowd(50, 7, seed), some_crowd(50, 9, seed + 30)
            names = Random(seed).sample(range(1000), 1000)
            twin = tuple(names[name] for name in crowd)
            self.assertEqual([crowd_word(twin), crowd_groups(twin)], [crowd_word(crowd), crowd_groups(crowd)])
            self.assertEqual([crowd_distance(crowd, twin), crowd_distance(twin, crowd)], [0, 0])
            self.assertEqual(crowd_distance(twin, other), crowd_distance(crowd, other))
            self.assertEqual(crowd_distance(other, twin), crowd_distance(other, crowd))

    def test_shares(self):
        for seed in range(40):
            many = (1, 3, 20, 200)[seed % 4]
            one, other = some_crowd(many, 1 + seed % 9, seed), some_crowd(many, 1 + seed % 6, seed + 50)
            pairs = list(zip(one, other))
            want = tuple(sorted((name, twin, pairs.count((name, twin))) for name, twin in set(pairs)))
            self.assertEqual(crowd_shares(one, other), want)
            self.assertEqual(sum(triple[2] for triple in want), many)
            self.assertEqual(sorted((twin, name, both) for name, twin, both in want), list(crowd_shares(other, one)))

    def test_distances_of_great_crowds(self):
        for seed in range(40):
            many = (1, 3, 20, 200)[seed % 4]
            one, other = some_crowd(many, 1 + seed % 9, seed), some_crowd(many, 1 + seed % 30, seed + 50)
            self.assertEqual(crowd_distance(one, other), plain_crowd_distance(one, other))
            self.assertEqual(crowd_distance(one, one), 0)

    def test_ends(self):
        alone, together = tuple(range(800, 1000)), (999,) * 200
        self.assertEqual([crowd_distance(alone, together), crowd_distance(together, alone)], [199, 199])
        self.assertEqual([crowd_groups(alone), crowd_groups(together)], [200, 1])
        self.assertEqual([crowd_word(alone), crowd_word(together)], [tuple(range(200)), (0,) * 200])
        for name in (0, 999):
            self.assertEqual([crowd_word((name,)), crowd_groups((name,)), crowd_shares((name,), (name,))],
                             [(0,), 1, ((name, name, 1),)])
        for crowd in ((), (0,) * 201, (1000,), (-1,), (0, 1000), (True,)):
            for call in (crowd_word, crowd_groups):
                self.fails((BadCrowd, {}, crowd), call, crowd)
            for call in (crowd_distance, crowd_shares):
                self.fails((BadCrowd, {}, crowd), call, crowd, crowd)

    def test_unlike_numbers_of_people(self):
        for call in (crowd_distance, crowd_shares):
            for one, other in (((0,), (0, 0)), ((0, 0), (0,)), ((0,) * 200, (0,) * 199), ((0,) * 6, (0,) * 201)):
                self.fails((BadCrowd, {}, other), call, one, other)

    def test_bad_arguments(self):
        for call in (crowd_word, crowd_groups):
            self.refuses(call, [(0,)], [bad_crowds()])
        for call in (crowd_distance, crowd_shares):
            for one in ((0,), (5, 5, 7), (1,) * 200):
                self.refuses(call, [one, one], [bad_crowds(), bad_crowds(len(one))])
        for value in STRANGE + (HUGE,):
            self.fails((BadCrowd, {}, value), crowd_word, value)


if __name__ == "__main__":
    unittest.main()
