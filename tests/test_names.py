"""Point 19: new names, and what is alike but for the names."""

import unittest
from itertools import permutations

from groupdeeds.errors import BadDrawing, BadGrouping, TooMany
from groupdeeds.names import alike, alike_drawings, renamed, renamed_drawing, shape
from tests.helpers import SIZES, Case, as_drawing, bad_drawings, bad_groupings, no_drawings, no_groupings, plain_done
from tests.helpers import plain_drawings, plain_drawn, plain_groupings, plain_idle, plain_join, plain_row_drawing
from tests.helpers import plain_steps, some_drawings
from tests.arguments import bad_orders

GOOD, OTHER = ((0, 1), (2,)), ((0, 2), (1,))


def plain_renamed(grouping, order):
    return tuple(sorted(tuple(sorted(order[one] for one in lot)) for lot in grouping))


def plain_renamed_drawing(drawing, order):
    return as_drawing([([order[one] for one in before], [order[one] for one in behind]) for before, behind in drawing])


def orders(size, many):
    """Return so many orders of a size, or all."""
    found = list(permutations(range(size)))
    return found[::1 + len(found) // many]


class Renamed(Case):
    def test_example(self):
        got = [renamed(GOOD, (2, 0, 1)), shape(GOOD), alike(GOOD, OTHER),
               renamed_drawing((((0,), ()), ((1,), (0, 1))), (1, 0)),
               alike_drawings((((0, 1), (0, 1)),), (((0, 1), (0, 1)),))]
        self.assertEqual(got, [((0, 2), (1,)), (2, 1), True, (((0,), (0, 1)), ((1,), ())), True])

    def test_who_is_together(self):
        for size in SIZES:
            for order in orders(size, 24 if size < 6 else 9):
                for one in plain_groupings(size)[::1 if size < 5 else 7]:
                    got = renamed(one, order)
                    self.assertEqual(got, plain_renamed(one, order))
                    self.assertIn(got, plain_groupings(size) if size < 5 else [got])
                    for lot in one:
                        self.assertIn(sorted(order[person] for person in lot), [list(other) for other in got])

    def test_drawings(self):
        for size in (1, 2):
            for order in orders(size, 9):
                for made in plain_drawings(size):
                    self.assertEqual(renamed_drawing(made, order), plain_renamed_drawing(made, order))
        for size in (3, 4, 5, 6):
            for made, order in zip(some_drawings(size, 30, 8), orders(size, 30) * 9):
                self.assertEqual(renamed_drawing(made, order), plain_renamed_drawing(made, order))

    def test_rows_under_new_names(self):
        """What a row and its drawing make is the same under new names."""
        for size in (2, 3, 4):
            steps = plain_steps(size)
            for turn, order in enumerate(orders(size, 24)):
                row = [steps[(turn * 5 + at * at) % len(steps)] for at in range(turn % 6)]
                named = [tuple(sorted(order[one] for one in step)) for step in row]
                made = plain_row_drawing(size, row)
                self.assertEqual(renamed_drawing(made, order), plain_row_drawing(size, named))
                for one in plain_groupings(size):
                    self.assertEqual(renamed(plain_done(one, row), order), plain_done(renamed(one, order), named))
                    self.assertEqual(renamed(plain_drawn(made, one), order),
                                     plain_drawn(renamed_drawing(made, order), renamed(one, order)))

    def test_no_name_is_changed(self):
        for size in SIZES:
            same = tuple(range(size))
            for one in plain_groupings(size)[::5]:
                self.assertEqual(renamed(one, same), one)
            for made in some_drawings(size, 9, 3):
                self.assertEqual(renamed_drawing(made, same), made)

    def test_bad_arguments(self):
        for size in SIZES:
            order = tuple(range(size))[::-1]
            self.refuses(renamed, [plain_groupings(size)[-1], order], [no_groupings(), bad_orders(size)])
            self.refuses(renamed_drawing, [plain_idle(size), order], [no_drawings(), bad_orders(size)])


class Alike(Case):
    def test_shapes(self):
        for size in SIZES:
            for one in plain_groupings(size):
                got = shape(one)
                self.assertIs(type(got), tuple)
                self.assertEqual(got, tuple(sorted((len(lot) for lot in one), reverse=True)))
        self.assertEqual([shape(((0,), (1, 2, 3), (4, 5))), shape(((0,),))], [(3, 2, 1), (1,)])
        self.refuses(shape, [GOOD], [no_groupings()])

    def test_by_all_orders(self):
        for size in SIZES:
            known = plain_groupings(size)
            for one in known[::1 if size < 5 else 60]:
                found = {plain_renamed(one, order) for order in permutations(range(size))}
                for other in known:
                    self.assertIs(alike(one, other), other in found)

    def test_bad_arguments(self):
        for size in SIZES:
            one = plain_groupings(size)[-1]
            self.refuses(alike, [one, one], [no_groupings(), bad_groupings(size)])
        self.fails((BadGrouping, {}, "sizes"), alike, GOOD, ((0, 1),))

    def test_drawings_by_all_orders(self):
        for size in (1, 2):
            for one in plain_drawings(size):
                found = {plain_renamed_drawing(one, order) for order in permutations(range(size))}
                for other in plain_drawings(size):
                    self.assertIs(alike_drawings(one, other), other in found)
        known = plain_drawings(3)
        for one in known[::20]:
            found = {plain_renamed_drawing(one, order) for order in permutations(range(3))}
            for other in known:
                self.assertIs(alike_drawings(one, other), other in found)

    def test_greater_drawings(self):
        for size in (4, 5):
            tried = some_drawings(size, 10, 17)
            for turn, one in enumerate(tried):
                found = {plain_renamed_drawing(one, order) for order in permutations(range(size))}
                for other in tried + sorted(found)[turn::40]:
                    self.assertIs(alike_drawings(one, other), other in found)

    def test_names_before_and_behind_are_the_same_people(self):
        """New names on one side alone are not enough."""
        swap, two = (((0,), (1,)), ((1,), (0,))), plain_idle(2)
        self.assertIs(alike_drawings(swap, two), False)
        stay, go = (((), (1,)), ((0,), (0,)), ((1,), ())), (((), (0,)), ((0,), (1,)), ((1,), ()))
        self.assertIs(alike_drawings(stay, go), False)
        self.assertIs(alike_drawings(stay, (((), (0,)), ((0,), ()), ((1,), (1,)))), True)

    def test_five_and_six_people(self):
        self.assertIs(alike_drawings(plain_join(5), plain_join(5)), True)
        self.assertIs(alike_drawings(plain_join(5), plain_idle(5)), False)
        six = (TooMany, {"most": 5}, 6)
        for one in (plain_idle(6), plain_join(6)):
            for other in (plain_idle(6), plain_join(6)):
                self.fails(six, alike_drawings, one, other)
        self.fails((BadDrawing, {}, 5), alike_drawings, plain_idle(6), plain_idle(5))
        self.fails((BadDrawing, {}, 6), alike_drawings, plain_idle(5), plain_idle(6))

    def test_bad_drawings(self):
        for size in (1, 2, 5, 6):
            one = plain_join(size)
            self.refuses(alike_drawings, [one, one], [no_drawings(), bad_drawings(size)])


if __name__ == "__main__":
    unittest.main()
