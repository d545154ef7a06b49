"""Points 4 and 5: drawings, and what comes of them."""

import unittest

from groupdeeds.drawings import after, drawing, drawing_rest, drawn, idle, is_still, mirrored, step_drawing, ties
from groupdeeds.groupings import done
from tests.helpers import SIZES, Case, bad_drawings, bad_groupings, bad_rows, bad_sizes, bad_steps, no_drawings
from tests.helpers import plain_after, plain_drawings, plain_drawn, plain_groupings, plain_idle, plain_row_drawing
from tests.helpers import plain_rows, plain_step_drawing, plain_steps, some_drawings, tie_number

SWAP = (((0,), (1,)), ((1,), (0,)))
CUT = (((), (0,)), ((0,), ()))
RING = (((0,), (1,)), ((1,), (2,)), ((2,), (0,)))


def drawings_to_try(size):
    """Return all drawings of small sizes, some of the greater ones."""
    return plain_drawings(size) if size < 4 else some_drawings(size, 40, size)


class Drawings(Case):
    def test_first_example(self):
        got = [step_drawing(2, (0,)), step_drawing(2, (0, 1)), after(step_drawing(2, (0, 1)), step_drawing(2, (0,))),
               ties(idle(3)), drawing(2, ()), drawn(step_drawing(3, (0,)), ((0, 1), (2,)))]
        want = [(((), (0,)), ((0,), ()), ((1,), (1,))), (((0, 1), (0, 1)),), (((), (0,)), ((0, 1), (1,))), 3,
                (((0,), (0,)), ((1,), (1,))), ((0,), (1,), (2,))]
        self.assertEqual(got, want)

    def test_second_example(self):
        self.assertEqual([mirrored((((), (0,)), ((0, 1), (1,)))), is_still(SWAP), drawing_rest(SWAP)],
                         [(((0,), ()), ((1,), (0, 1))), False, (0, 2)])

    def test_idle(self):
        for size in SIZES:
            self.assertEqual(idle(size), tuple(((person,), (person,)) for person in range(size)))
        self.refuses(idle, [1], [bad_sizes()])

    def test_ties(self):
        self.assertEqual([ties(CUT), ties(SWAP), ties(RING), ties((((0, 1), (0, 1)),))], [0, 2, 3, 1])
        self.assertEqual(ties((((), (0, 1)), ((0, 1), ()))), 0)
        for size in SIZES:
            self.assertEqual(ties(plain_idle(size)), size)
            for made in drawings_to_try(size):
                self.assertEqual(ties(made), tie_number(made))

    def test_step_drawing(self):
        for size in SIZES:
            for step in plain_steps(size):
                self.assertEqual(step_drawing(size, step), plain_step_drawing(size, step))

    def test_drawn(self):
        for size in SIZES:
            for made in drawings_to_try(size):
                for grouping in plain_groupings(size)[::9 if size > 4 else 1]:
                    self.assertEqual(drawn(made, grouping), plain_drawn(made, grouping))

    def test_after(self):
        for size in SIZES:
            tried = drawings_to_try(size)
            for one in tried[::7 if size == 3 else 1]:
                for other in tried:
                    self.assertEqual(after(one, other), plain_after(one, other))

    def test_drawn_by_the_first_and_then_the_second(self):
        for size in SIZES:
            tried = some_drawings(size, 12, 5)
            for one in tried:
                for other in tried:
                    for grouping in plain_groupings(size)[::11]:
                        self.assertEqual(drawn(after(one, other), grouping), drawn(other, drawn(one, grouping)))

    def test_mirrored(self):
        for size in SIZES:
            for made in drawings_to_try(size):
                self.assertEqual(mirrored(made), tuple(sorted((behind, before) for before, behind in made)))

    def test_no_ties(self):
        flat = (((), (0,)), ((), (1, 2)), ((0, 1, 2), ()))
        for grouping in plain_groupings(3):
            self.assertEqual(drawn(flat, grouping), ((0,), (1, 2)))
        self.assertEqual(after(flat, flat), flat)

    def test_bad_arguments(self):
        for call in (ties, mirrored, is_still, drawing_rest):
            self.refuses(call, [SWAP], [no_drawings()])
        for good in (plain_idle(1), CUT, SWAP, RING):
            size = sum(len(pair[0]) for pair in good)
            self.refuses(after, [good, good], [no_drawings(), bad_drawings(size)])
            self.refuses(drawn, [good, plain_groupings(size)[0]], [no_drawings(), bad_groupings(size)])
        for size in (1, 2, 6):
            self.refuses(step_drawing, [size, (0,)], [bad_sizes(), bad_steps(size)])
            self.refuses(drawing, [size, ()], [bad_sizes(), bad_rows(size)])

    def test_bad_drawings_have_no_size(self):
        for bad in no_drawings():
            self.fails(bad, after, bad[2], bad[2])


class DrawingsOfRows(Case):
    def rows_to_try(self, size):
        rows = [row for many in range(3) for row in plain_rows(size, many)]
        long = [tuple(plain_steps(size)[(at * at * 5 + at * turn) % len(plain_steps(size))] for at in range(40))
                for turn in range(1, 8)]
        return rows[::1 if size < 4 else 23] + long + [row[:turn] for row in long for turn in (4, 7, 39)]

    def test_drawing(self):
        for size in SIZES:
            self.assertEqual(drawing(size, ()), plain_idle(size))
            for row in self.rows_to_try(size):
                self.assertEqual(drawing(size, row), plain_row_drawing(size, row))

    def test_makes_what_the_row_makes(self):
        for size in SIZES:
            for row in self.rows_to_try(size):
                made = drawing(size, row)
                for grouping in plain_groupings(size)[::13 if size > 4 else 1]:
                    self.assertEqual(drawn(made, grouping), done(grouping, row))

    def test_drawing_is_not_changed_by_steps_twice(self):
        for size in SIZES:
            for step in plain_steps(size):
                self.assertEqual(drawing(size, (step, step)), step_drawing(size, step))


class Repeated(Case):
    def powers(self, made, many):
        found = [plain_idle(sum(len(pair[0]) for pair in made))]
        for _ in range(many):
            found.append(plain_after(found[-1], made))
        return found

    def test_is_still(self):
        for size in SIZES:
            self.assertIs(is_still(plain_idle(size)), True)
            for made in drawings_to_try(size):
                self.assertIs(is_still(made), plain_after(made, made) == made)

    def test_rest(self):
        for size in SIZES:
            for made in drawings_to_try(size)[::2]:
                before, length = drawing_rest(made)
                powers = self.powers(made, before + length)
                self.assertEqual(powers[before], powers[before + length])
                self.assertEqual(len(set(powers)), before + length)
                self.assertGreater(length, 0)

    def test_rests(self):
        shift = (((), (0,)), ((0,), (1,)), ((1,), (2,)), ((2,), ()))
        mixed = (((0,), (1,)), ((1,), (0,)), ((2,), (3,)), ((3,), (4,)), ((4,), (2,)), ((5,), (5,)))
        self.assertEqual([drawing_rest(plain_idle(3)), drawing_rest(RING), drawing_rest(CUT), drawing_rest(shift)],
                         [(0, 1), (0, 3), (1, 1), (3, 1)])
        self.assertEqual(drawing_rest(mixed), (0, 6))
        self.assertIs(type(drawing_rest(RING)), tuple)

    def test_ring_behind_a_fall(self):
        falling = (((), (3,)), ((0,), (1,)), ((1,), (0,)), ((2,), ()), ((3,), (2,)))
        self.assertEqual(drawing_rest(falling), (2, 2))


if __name__ == "__main__":
    unittest.main()
