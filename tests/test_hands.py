"""Point 17: two hands that take steps by turns."""

import unittest

from groupdeeds.errors import BadCount
from groupdeeds.hands import best_steps, most_worth
from tests.helpers import SIZES, Case, bad_counts, no_groupings, plain_groupings, plain_step, plain_steps
from tests.test_likings import plain_worth
from tests.arguments import bad_likings, some_likings

GOOD, APART, PAIR = ((0, 1), (2,)), ((0,), (1,)), ((0, 1),)


class Game:
    """All that two hands can come to by all their steps, told by what is left to do."""

    def __init__(self, size, likings):
        self.likings = likings
        self.steps = plain_steps(size)
        self.behind = {one: [plain_step(one, step) for step in self.steps] for one in plain_groupings(size)}
        self.found = {}

    def worth(self, here, first, left):
        """Return the worth in the end if the first hand, or the second one, is to take the next of the steps left."""
        if left == 0:
            return plain_worth(here, self.likings)
        if (here, first, left) not in self.found:
            ends = [self.worth(there, not first, left - 1) for there in self.behind[here]]
            self.found[here, first, left] = max(ends) if first else min(ends)
        return self.found[here, first, left]

    def best(self, here, many):
        ends = {step: self.worth(there, False, many - 1) for step, there in zip(self.steps, self.behind[here])}
        return tuple(step for step in self.steps if ends[step] == max(ends.values()))


class Hands(Case):
    def test_example(self):
        got = [most_worth(GOOD, (4, -1, -1), 1), best_steps(APART, (-1,), 1)]
        self.assertEqual(got, [4, ((0,), (1,))])

    def test_by_all_steps(self):
        for size, seeds in ((1, 1), (2, 14), (3, 14), (4, 7), (5, 3), (6, 2)):
            for seed in range(seeds):
                likings = some_likings(size, seed)
                game = Game(size, likings)
                for at, start in enumerate(plain_groupings(size)[seed::1 + size * size // 2]):
                    for many in range(7) if size < 5 else (0, 1 + at % 2, 3 + at % 4):
                        self.assertEqual(most_worth(start, likings, many), game.worth(start, True, many))
                        if many > 0:
                            self.assertEqual(best_steps(start, likings, many), game.best(start, many))

    def test_no_steps(self):
        for size in SIZES:
            likings = some_likings(size, 0)
            for start in plain_groupings(size)[::9]:
                self.assertEqual(most_worth(start, likings, 0), plain_worth(start, likings))

    def test_the_second_hand_wants_it_small(self):
        self.assertEqual([most_worth(APART, (5,), many) for many in range(7)], [0, 5, 0, 5, 0, 5, 0])
        self.assertEqual([most_worth(PAIR, (-5,), many) for many in range(7)], [-5, 0, -5, 0, -5, 0, -5])
        self.assertEqual(best_steps(APART, (5,), 2), ((0,), (0, 1), (1,)))
        self.assertEqual(best_steps(APART, (5,), 3), ((0,), (0, 1), (1,)))
        self.assertEqual(best_steps(APART, (5,), 1), ((0, 1),))

    def test_size_one(self):
        for many in range(1, 7):
            self.assertEqual([most_worth(((0,),), (), many), best_steps(((0,),), (), many)], [0, ((0,),)])

    def test_numbers_of_steps(self):
        for many in (-1, 7, True, False):
            self.fails((BadCount, {}, many), most_worth, APART, (5,), many)
        for many in (-1, 0, 7, True):
            self.fails((BadCount, {}, many), best_steps, APART, (5,), many)

    def test_bad_arguments(self):
        for size in (1, 2, 3, 6):
            good = [plain_groupings(size)[-1], some_likings(size, 0), 2]
            self.refuses(most_worth, good, [no_groupings(), bad_likings(size), bad_counts(0, 6)])
            self.refuses(best_steps, good, [no_groupings(), bad_likings(size), bad_counts(1, 6)])


if __name__ == "__main__":
    unittest.main()
