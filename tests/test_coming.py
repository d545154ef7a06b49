"""Point 5: which drawings come, and of which rows."""

import unittest

from groupdeeds.coming import come_count, comes, drawing_count, drawing_row, shows_drawing_row
from groupdeeds.drawings import drawing
from groupdeeds.errors import NoRow
from tests.helpers import ANY_VALUES, SIZES, Case, bad_counts, bad_sizes, coming_drawings, no_drawings
from tests.helpers import plain_drawings, plain_idle, plain_row_drawing, plain_rows, some_drawings, tie_number

SWAP = (((0,), (1,)), ((1,), (0,)))
RING = (((0,), (1,)), ((1,), (2,)), ((2,), (0,)))
JOIN = (((0, 1), (0, 1)),)


class Comes(Case):
    def test_example(self):
        got = [comes(SWAP), drawing_row((((0,), (0,)), ((1,), (1,)))), drawing_count(3, 2), come_count(2),
               shows_drawing_row(JOIN, ((0, 1), (0, 1)))]
        self.assertEqual(got, [False, (), 72, 14, True])

    def test_by_walking(self):
        for size in (1, 2, 3):
            known = coming_drawings(size)
            for made in plain_drawings(size):
                self.assertIs(comes(made), made in known)

    def test_as_many_ties_as_people(self):
        for size in SIZES:
            self.assertIs(comes(plain_idle(size)), True)
        turned = tuple(((person,), ((person + 1) % 6,)) for person in range(6))
        for made in (SWAP, RING, turned):
            self.assertIs(comes(made), False)

    def test_fewer_ties(self):
        for size in (4, 5, 6):
            for made in some_drawings(size, 60, 3):
                self.assertIs(comes(made), tie_number(made) < size or made == plain_idle(size))


class Rows(Case):
    def check_row_of(self, made):
        size = sum(len(pair[0]) for pair in made)
        row = drawing_row(made)
        self.assertIs(type(row), tuple)
        self.assertLessEqual(len(row), 40)
        self.assertEqual(drawing(size, row), made)
        self.assertIs(shows_drawing_row(made, row), True)

    def test_all_of_small_sizes(self):
        for size in (1, 2, 3, 4):
            for made in plain_drawings(size):
                if tie_number(made) < size:
                    self.check_row_of(made)

    def test_some_of_greater_sizes(self):
        for size in (5, 6):
            for made in some_drawings(size, 400, 11):
                if tie_number(made) < size:
                    self.check_row_of(made)

    def test_rings(self):
        """All but one person go round: the row needs the place that is free."""
        for size in range(2, 7):
            for turn in range(1, size - 1):
                rest = size - 1
                ring = [((person,), ((person + turn) % rest,)) for person in range(rest)]
                self.check_row_of(tuple(sorted(ring + [((rest,), ()), ((), (rest,))])))
                grown = [((0, rest), ring[0][1])] + ring[1:-1] + [(ring[-1][0], ring[-1][1] + (rest,))]
                self.check_row_of(tuple(sorted(grown)))
        pairs = [((0,), (1,)), ((1,), (0,)), ((2,), (3,)), ((3,), (2,)), ((4,), ()), ((5,), (4, 5))]
        self.check_row_of(tuple(pairs))

    def test_idle(self):
        for size in SIZES:
            self.assertEqual(drawing(size, drawing_row(plain_idle(size))), plain_idle(size))

    def test_no_row(self):
        turned = tuple(((person,), ((person + 1) % 6,)) for person in range(6))
        for made in (SWAP, RING, turned):
            self.fails((NoRow, {}, made), drawing_row, made)
            for value in ANY_VALUES[::9]:
                self.fails((NoRow, {}, made), shows_drawing_row, made, value)

    def test_bad_arguments(self):
        self.refuses(comes, [JOIN], [no_drawings()])
        self.refuses(drawing_row, [JOIN], [no_drawings()])
        self.refuses(shows_drawing_row, [JOIN, ()], [no_drawings(), []])


class Shows(Case):
    def test_all_short_rows(self):
        for size, many in ((1, 3), (2, 3), (3, 2)):
            rows = [row for count in range(many + 1) for row in plain_rows(size, count)]
            for made in coming_drawings(size):
                for row in rows:
                    self.assertIs(shows_drawing_row(made, row), plain_row_drawing(size, row) == made)

    def test_longest_rows(self):
        self.assertIs(shows_drawing_row(JOIN, ((0, 1),) * 40), True)
        self.assertIs(shows_drawing_row(JOIN, ((0, 1),) * 41), False)

    def test_near_values(self):
        near = [((0, 1), (0,)), ((0,), (0, 1)), ((0,),), ((1,),), ((0, 1, 2),), ((0, 2),), ((1, 0),), [(0, 1)],
                ([0, 1],), ((0, True),), ((False, 1),), ((0, 1), None), ((0, 1), ()), (((0, 1),),), (0, 1), "((0,1),)"]
        self.refuses_last(shows_drawing_row, [JOIN], near)

    def test_any_value(self):
        good = [value for value in ANY_VALUES if value == ((0, 1),) and type(value[0][1]) is int]
        self.assertEqual(len(good), 1)
        self.refuses_last(shows_drawing_row, [JOIN], [value for value in ANY_VALUES if value not in good])
        for value in ANY_VALUES:
            for size in SIZES:
                want = isinstance(value, tuple) and value == ()
                self.assertIs(shows_drawing_row(plain_idle(size), value), want)


class Counts(Case):
    def test_by_going_through_all(self):
        for size in (1, 2, 3, 4):
            known = [tie_number(made) for made in plain_drawings(size)]
            self.assertEqual([drawing_count(size, many) for many in range(size + 1)],
                             [known.count(many) for many in range(size + 1)])

    def test_all_together(self):
        """All drawings are the groupings of twice as many points."""
        for size, want in zip(SIZES, (2, 15, 203, 4140, 115975, 4213597)):
            self.assertEqual(sum(drawing_count(size, many) for many in range(size + 1)), want)

    def test_ends(self):
        self.assertEqual([drawing_count(size, 0) for size in SIZES], [1, 4, 25, 225, 2704, 41209])
        self.assertEqual([drawing_count(size, size) for size in SIZES], [1, 2, 6, 24, 120, 720])

    def test_come_count(self):
        self.assertEqual([come_count(size) for size in SIZES], [2, 14, 198, 4117, 115856, 4212878])
        for size in (1, 2, 3):
            self.assertEqual(come_count(size), len(coming_drawings(size)))

    def test_bad_arguments(self):
        self.refuses(come_count, [1], [bad_sizes()])
        for size in SIZES:
            self.refuses(drawing_count, [size, 0], [bad_sizes(), bad_counts(0, size)])


if __name__ == "__main__":
    unittest.main()
