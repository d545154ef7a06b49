"""Point 13: which deeds fit what was seen of a row, and what they tell."""

import unittest
from itertools import product
from random import Random

from groupdeeds.errors import BadSights, TooMany
from groupdeeds.sights import first_against, fits, fitting, next_seen
from tests.helpers import SIZES, Case, bad_groupings, bad_sizes, coming_drawings, no_drawings, plain_done
from tests.helpers import plain_drawings, plain_drawn, plain_groupings, plain_idle, plain_steps, some_drawings
from tests.test_deeds import plain
from tests.arguments import bad_sights

APART, PAIR = ((0,), (1,)), ((0, 1),)


class Deeds:
    """All deeds of rows of a size, with what they make of each grouping."""

    def __init__(self, size):
        self.known = plain_groupings(size)
        found = sorted({plain(made) for made in coming_drawings(size)})
        self.made = {made: {one: plain_drawn(made, one) for one in self.known} for made in found}

    def fitting(self, sights):
        return tuple(made for made in self.made if all(self.made[made][one] == other for one, other in sights))


ALL = {size: Deeds(size) for size in (1, 2, 3)}


def some_sights(size, turn):
    """Return sights of a size: what one row makes, what some row makes but for one sight, or any."""
    mixed = Random(turn)
    known = plain_groupings(size)
    row = [mixed.choice(plain_steps(size)) for _ in range(turn % 7)]
    sights = [(one, plain_done(one, row)) for one in [mixed.choice(known) for _ in range(1 + turn % 8)]]
    if turn % 3 == 1:
        sights[mixed.randrange(len(sights))] = (mixed.choice(known), mixed.choice(known))
    if turn % 3 == 2:
        sights = [(mixed.choice(known), mixed.choice(known)) for _ in sights]
    return tuple(sights)


class Sights(Case):
    def test_example(self):
        got = [len(fitting(2, ((APART, APART),))), fits((((0,), (0,)), ((1,), (1,))), ((PAIR, PAIR),)),
               next_seen(2, ((APART, PAIR),), PAIR), first_against(2, ((APART, PAIR), (PAIR, APART)))]
        self.assertEqual(got, [2, True, (((0, 1),),), 2])

    def check_sights(self, size, sights):
        want = ALL[size].fitting(sights)
        self.assertEqual(fitting(size, sights), want)
        for one in ALL[size].known:
            seen = sorted({ALL[size].made[made][one] for made in want})
            self.assertEqual(next_seen(size, sights, one), tuple(seen))
        against = [many for many in range(1, len(sights) + 1) if not ALL[size].fitting(sights[:many])]
        self.assertEqual(first_against(size, sights), against[0] if against else None)

    def test_all_sights_of_two_people(self):
        pairs = list(product(plain_groupings(2), repeat=2))
        for many in (1, 2, 3):
            for sights in product(pairs, repeat=many):
                self.check_sights(2, sights)

    def test_one_person(self):
        only = (((0,),), ((0,),))
        for many in (1, 8):
            self.check_sights(1, (only,) * many)
            self.assertEqual(fitting(1, (only,) * many), ((((), (0,)), ((0,), ())),))
        self.assertIs(fits((((0,), (0,)),), (only,)), True)

    def test_three_people(self):
        for one, other in product(plain_groupings(3), repeat=2):
            self.check_sights(3, ((one, other),))
        for turn in range(90):
            self.check_sights(3, some_sights(3, turn))

    def test_no_deed_fits(self):
        sights = ((APART, PAIR), (APART, APART)) + ((PAIR, PAIR),) * 6
        self.assertEqual([fitting(2, sights), next_seen(2, sights, PAIR), first_against(2, sights)], [(), (), 2])
        self.assertEqual(first_against(2, ((PAIR, PAIR),) * 7 + ((PAIR, APART),)), 8)
        self.assertEqual(first_against(2, ((APART, PAIR), (PAIR, APART))), 2)
        self.assertIsNone(first_against(2, ((PAIR, PAIR),) * 8))
        # Nothing makes all of these be, each alone could be.
        goals = ((0, 1, 2),), ((0, 1), (2,)), ((0, 2), (1,))
        self.assertEqual(first_against(3, tuple((((0,), (1,), (2,)), goal) for goal in goals)), 2)

    def test_all_groupings_seen(self):
        """The sights of all groupings leave one deed: that of the row."""
        for turn in range(0, 70, 3):
            row = [Random(turn).choice(plain_steps(3)) for _ in range(turn % 6)]
            sights = tuple((one, plain_done(one, row)) for one in plain_groupings(3))
            self.assertEqual(len(fitting(3, sights)), 1)
            for one, other in sights:
                self.assertEqual(next_seen(3, sights, one), (other,))

    def test_too_many(self):
        for size in (4, 5, 6):
            one = plain_groupings(size)[0]
            for sights in (((one, one),), ((one, one),) * 8):
                self.fails((TooMany, {"most": 3}, size), fitting, size, sights)
                self.fails((TooMany, {"most": 3}, size), next_seen, size, sights, one)
                self.fails((TooMany, {"most": 3}, size), first_against, size, sights)

    def test_bad_arguments(self):
        for size in (1, 3, 4):
            one = plain_groupings(size)[-1]
            bads = [bad_sizes(), bad_sights(size), bad_groupings(size)]
            for call in (fitting, first_against):
                self.refuses(call, [size, ((one, one),)], bads[:2])
            self.refuses(next_seen, [size, ((one, one),), one], bads)

    def test_number_of_sights(self):
        for many, index in ((0, None), (9, None), (10, None)):
            self.fails((BadSights, {"index": index}, many), fitting, 2, ((PAIR, PAIR),) * many)
        self.fails((BadSights, {"index": 7}, 8), fitting, 2, ((PAIR, PAIR),) * 7 + ((PAIR, ((0,), (2,))),))


class Fits(Case):
    def test_by_what_drawings_make(self):
        for size in SIZES:
            for turn, made in enumerate(some_drawings(size, 40, 5) + [plain_idle(size)]):
                sights = some_sights(size, turn)
                self.assertIs(fits(made, sights), all(plain_drawn(made, one) == other for one, other in sights))
                right = tuple((one, plain_drawn(made, one)) for one, _ in sights)
                self.assertIs(fits(made, right), True)
                last = right[-1]
                known = plain_groupings(size)
                if size > 1:
                    wrong = known[(known.index(last[1]) + 1 + turn % (len(known) - 1)) % len(known)]
                    self.assertIs(fits(made, right[:-1] + ((last[0], wrong),)), False)

    def test_all_drawings_of_two_people(self):
        for made in plain_drawings(2):
            for pair in product(plain_groupings(2), repeat=2):
                self.assertIs(fits(made, (pair,)), plain_drawn(made, pair[0]) == pair[1])

    def test_drawings_that_no_row_has(self):
        swap = (((0,), (1,)), ((1,), (0,)))
        self.assertIs(fits(swap, ((PAIR, PAIR), (APART, APART))), True)
        turned = (((0,), (1,)), ((1,), (2,)), ((2,), (0,)))
        good, other = ((0, 1), (2,)), ((0,), (1, 2))
        self.assertEqual([fits(turned, ((good, other),)), fits(turned, ((good, good),))], [True, False])

    def test_bad_arguments(self):
        for size in (1, 2, 3, 5):
            one = plain_groupings(size)[-1]
            self.refuses(fits, [plain_idle(size), ((one, one),)], [no_drawings(), bad_sights(size)])


if __name__ == "__main__":
    unittest.main()
