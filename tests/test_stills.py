"""Point 8: the groupings that a drawing leaves, makes and makes others of."""

import unittest

from groupdeeds.drawings import step_drawing
from groupdeeds.stills import forgets, made_from, made_ones, stills
from tests.helpers import Case, SIZES, bad_groupings, no_drawings, plain_drawings, plain_drawn, plain_groupings
from tests.helpers import plain_idle, some_drawings

CUT = (((), (0,)), ((0,), ()))


def drawings_to_try(size):
    """Return all drawings of small sizes, some of the greater ones."""
    return plain_drawings(size) if size < 4 else some_drawings(size, 60 if size < 6 else 8, size) + [plain_idle(size)]


class Stills(Case):
    def test_example(self):
        got = [stills(step_drawing(2, (0,))), made_ones(step_drawing(2, (0, 1))), forgets(step_drawing(2, (0,))),
               made_from(step_drawing(3, (0,)), ((0,), (1,), (2,)))]
        want = [(((0,), (1,)),), (((0, 1),),), True, (((0,), (1,), (2,)), ((0, 1), (2,)), ((0, 2), (1,)))]
        self.assertEqual(got, want)

    def test_by_all_groupings(self):
        for size in SIZES:
            known = plain_groupings(size)
            for made in drawings_to_try(size):
                maps = {grouping: plain_drawn(made, grouping) for grouping in known}
                self.assertEqual(stills(made), tuple(one for one in known if maps[one] == one))
                self.assertEqual(made_ones(made), tuple(sorted(set(maps.values()))))
                self.assertIs(forgets(made), len(set(maps.values())) == 1)
                for grouping in known[::20 if size > 4 else 1]:
                    self.assertEqual(made_from(made, grouping), tuple(one for one in known if maps[one] == grouping))

    def test_ties(self):
        one_tie = (((), (1,)), ((0, 1), (0,)))
        self.assertEqual([forgets(CUT), forgets(one_tie), forgets(plain_idle(1)), forgets(plain_idle(2))],
                         [True, True, True, False])
        self.assertEqual(stills((((), (0,)), ((), (1,)), ((0, 1), ()))), (((0,), (1,)),))
        self.assertEqual(stills((((0,), (1,)), ((1,), (2,)), ((2,), (0,)))), (((0,), (1,), (2,)), ((0, 1, 2),)))

    def test_nothing_made(self):
        self.assertEqual(made_from(step_drawing(2, (0,)), ((0, 1),)), ())

    def test_bad_arguments(self):
        for call in (stills, made_ones, forgets):
            self.refuses(call, [CUT], [no_drawings()])
        for made in (CUT, plain_idle(2), plain_idle(3)):
            size = sum(len(pair[0]) for pair in made)
            self.refuses(made_from, [made, plain_groupings(size)[0]], [no_drawings(), bad_groupings(size)])


if __name__ == "__main__":
    unittest.main()
