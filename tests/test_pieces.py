"""Point 20: the parts of drawings, and which are the same before or behind."""

import unittest
from itertools import combinations

from groupdeeds.drawings import after, is_still, mirrored
from groupdeeds.errors import BadTies
from groupdeeds.pieces import from_parts, kept_part, parts, same_before, same_behind
from tests.helpers import SIZES, Case, bad_drawings, bad_groupings, no_drawings, no_groupings, plain_after
from tests.helpers import plain_drawings, plain_groupings, plain_idle, plain_join, some_drawings
from tests.arguments import bad_ties

ONE = (((), (0,)), ((0, 1), (1,)))


def tried(size):
    """Return drawings of a size: all of small ones."""
    return plain_drawings(size) if size < 4 else some_drawings(size, 40, 6) + [plain_idle(size), plain_join(size)]


class Parts(Case):
    def test_example(self):
        got = [parts(ONE), from_parts(((0, 1),), ((0,), (1,)), ((0, 1),)) == ONE, kept_part(ONE),
               same_behind(ONE, ONE)]
        self.assertEqual(got, [(((0, 1),), ((0,), (1,)), ((0, 1),)), True, (((0, 1), (0, 1)),), True])

    def test_parts(self):
        for size in SIZES:
            known = plain_groupings(size)
            for made in tried(size):
                got = parts(made)
                self.assertEqual([type(got), len(got), type(got[2])], [tuple, 3, tuple])
                before, behind, pairs = got
                self.assertEqual(before, tuple(sorted(pair[0] for pair in made if pair[0])))
                self.assertEqual(behind, tuple(sorted(pair[1] for pair in made if pair[1])))
                self.assertIn(before, known)
                self.assertIn(behind, known)
                self.assertEqual(list(pairs), sorted(pairs))
                tied = {(before[one], behind[other]) for one, other in pairs}
                self.assertEqual(tied, {pair for pair in made if pair[0] and pair[1]})
                self.assertEqual(len(tied), len(pairs))

    def test_there_and_back(self):
        for size in SIZES:
            for made in tried(size):
                self.assertEqual(from_parts(*parts(made)), made)

    def test_back_and_there(self):
        for before in plain_groupings(3):
            for behind in plain_groupings(3):
                indexes = [(one, other) for one in range(len(before)) for other in range(len(behind))]
                for many in range(4):
                    for pairs in combinations(indexes, many):
                        if len(set(one for one, _ in pairs)) == len(set(other for _, other in pairs)) == many:
                            self.assertEqual(parts(from_parts(before, behind, pairs)), (before, behind, pairs))
                        else:
                            self.fails((BadTies, {}, pairs), from_parts, before, behind, pairs)

    def test_no_ties_and_as_many_as_people(self):
        for size in SIZES:
            alone = tuple((one,) for one in range(size))
            for before in plain_groupings(size)[::20]:
                cut = from_parts(before, alone, ())
                self.assertEqual(cut, tuple(sorted([(lot, ()) for lot in before] + [((), lot) for lot in alone])))
                self.assertEqual(parts(cut), (before, alone, ()))
            around = tuple((one, (one + 1) % size) for one in range(size))
            made = from_parts(alone, alone, around)
            self.assertEqual(made, tuple(((one,), (other,)) for one, other in around))
            self.assertEqual(parts(made), (alone, alone, around))
            self.assertEqual(parts(plain_idle(size)), (alone, alone, tuple((one, one) for one in range(size))))

    def test_order_of_lots(self):
        """Indexes are those of the ascending lots, not of the pairs of the drawing."""
        self.assertEqual(parts((((0,), (1, 2)), ((1, 2), (0,)))), (((0,), (1, 2)), ((0,), (1, 2)), ((0, 1), (1, 0))))
        self.assertEqual(parts((((), (0, 2)), ((0, 1, 2), (1,)))), (((0, 1, 2),), ((0, 2), (1,)), ((0, 1),)))

    def test_bad_arguments(self):
        for before, behind in ((((0,),), ((0,),)), (((0, 1),), ((0,), (1,))), (((0,), (1,)), ((0, 1),)),
                               (((0,), (1, 2)), ((0, 1), (2,))), (((0,), (1,), (2,), (3,)), ((0, 1, 2, 3),))):
            size = sum(len(lot) for lot in before)
            bads = [no_groupings(), bad_groupings(size), bad_ties(before, behind)]
            self.refuses(from_parts, [before, behind, ()], bads)
        for call in (parts, kept_part):
            self.refuses(call, [ONE], [no_drawings()])

    def test_bad_ties(self):
        alone = ((0,), (1,), (2,))
        self.assertEqual(from_parts(alone, alone, ((0, 2), (2, 0))),
                         (((), (1,)), ((0,), (2,)), ((1,), ()), ((2,), (0,))))
        for pairs in (((0, 0), (1, 0)), ((0, 0), (0, 1)), ((0, 0), (0, 0)), ((1, 0), (0, 1)), ((3, 0),), ((0, 3),),
                      ((-1, 0),), ((0, -1),), ((0, True),), ((False, 0),), [(0, 0)], ([0, 0],), ((0,),), ((0, 0, 0),),
                      ((0, 2), (2, 0), (1, 1)), None, 0, "00"):
            self.fails((BadTies, {}, pairs), from_parts, alone, alone, pairs)


class KeptPart(Case):
    def test_behind_its_mirrored_one(self):
        for size in SIZES:
            for made in tried(size):
                back = tuple(sorted((behind, before) for before, behind in made))
                got = kept_part(made)
                self.assertEqual(got, plain_after(made, back))
                self.assertEqual(got, after(made, mirrored(made)))
                self.assertIs(is_still(got), True)
                self.assertEqual(plain_after(plain_after(made, back), made), made)

    def test_idle_and_joined(self):
        for size in SIZES:
            self.assertEqual([kept_part(plain_idle(size)), kept_part(plain_join(size))],
                             [plain_idle(size), plain_join(size)])
        self.assertEqual(kept_part((((0,), (1,)), ((1,), (0,)))), plain_idle(2))


class TheSame(Case):
    def test_by_all_drawings_behind_and_ahead(self):
        for size, turn in ((1, 1), (2, 1), (3, 3)):
            known = plain_drawings(size)
            some = known[::turn]
            behind = {one: {after(one, other) for other in known} for one in some}
            ahead = {one: {after(other, one) for other in known} for one in some}
            for one in some:
                for other in some:
                    self.assertIs(same_before(one, other), other in behind[one] and one in behind[other])
                    self.assertIs(same_behind(one, other), other in ahead[one] and one in ahead[other])

    def test_by_the_words(self):
        for size in (4, 5, 6):
            some = tried(size)
            # Those behind others have the same parts before more often.
            some = some[:12] + [plain_after(one, other) for one in some[:5] for other in some[-6:]]
            for one in some:
                for other in some:
                    for side, call in ((0, same_before), (1, same_behind)):
                        told = [{(pair[side], bool(pair[1 - side])) for pair in made if pair[side]}
                                for made in (one, other)]
                        self.assertIs(call(one, other), told[0] == told[1])

    def test_drawings_that_no_row_has_may_lead(self):
        swap, two = (((0,), (1,)), ((1,), (0,))), plain_idle(2)
        self.assertEqual([same_before(swap, two), same_behind(two, swap)], [True, True])
        cut = (((), (0,)), ((), (1,)), ((0,), ()), ((1,), ()))
        self.assertEqual([same_before(two, cut), same_behind(two, cut)], [False, False])
        one = (((), (0,)), ((0, 1), (1,)))
        other = (((), (0,)), ((0,), ()), ((1,), (1,)))
        self.assertEqual([same_before(one, other), same_behind(one, other)], [False, True])
        self.assertEqual([same_before(mirrored(one), mirrored(other)), same_behind(mirrored(one), mirrored(other))],
                         [True, False])

    def test_bad_arguments(self):
        for size in (1, 2, 4):
            good = plain_idle(size)
            for call in (same_before, same_behind):
                self.refuses(call, [good, good], [no_drawings(), bad_drawings(size)])


if __name__ == "__main__":
    unittest.main()
