"""Point 24: rows changed in few places, and how many rows do the same."""

import unittest
from random import Random

from groupdeeds.changing import changed_row, same_rows, shows_changed_row
from groupdeeds.deeds import plain_drawing
from groupdeeds.errors import BadCount, BadDrawing, BadGrouping, BadRow, TooMany
from groupdeeds.leading import deeds
from groupdeeds.moving import distance
from tests.helpers import ANY_VALUES, SIZES, Case, bad_counts, bad_groupings, bad_rows, no_drawings, no_groupings
from tests.helpers import plain_done, plain_drawings, plain_groupings, plain_idle, plain_join, plain_row_drawing
from tests.helpers import plain_rows, plain_step, plain_steps
from tests.test_deeds import plain

GOOD, ALL, APART = ((0, 1), (2,)), ((0, 1, 2),), ((0,), (1,), (2,))
ONLY = ((0,),)


def differing(one, other):
    return sum(step != twin for step, twin in zip(one, other, strict=True))


def fewest_changes(start, row, goal):
    """Return the fewest changes that make the goal, or None, from what so many changes can make of the start."""
    steps = plain_steps(sum(len(lot) for lot in start))
    reached = [{start}] + [set() for _ in row]
    for step in row:
        kept = [{plain_step(one, step) for one in some} for some in reached]
        for many in range(len(row), 0, -1):
            kept[many] |= {plain_step(one, other) for one in reached[many - 1] for other in steps}
        reached = kept
    found = [many for many, some in enumerate(reached) if goal in some]
    return found[0] if found else None


def some_row(size, many, seed):
    mixed = Random(seed)
    return tuple(mixed.choice(plain_steps(size)) for _ in range(many))


class ChangedRows(Case):
    def test_example(self):
        got = [changed_row(GOOD, ((0,),), ALL)[0], same_rows((((0,), (0,)), ((1,), (1,))), 0),
               same_rows((((0, 1), (0, 1)),), 1)]
        self.assertEqual(got, [1, 1, 1])

    def check_row(self, start, row, goal, want):
        got = changed_row(start, row, goal)
        self.assertIs(shows_changed_row(start, row, goal, got), True)
        self.assertIs(shows_changed_row(start, row, goal, None), want is None)
        if want is None:
            self.assertIsNone(got)
            return
        self.assertEqual([type(got), len(got), type(got[0]), type(got[1])], [tuple, 2, int, tuple])
        self.assertEqual([got[0], differing(row, got[1])], [want, want])
        self.assertTrue(all(step in plain_steps(sum(len(lot) for lot in start)) for step in got[1]))
        self.assertEqual(plain_done(start, got[1]), goal)

    def test_by_all_rows(self):
        for size, most in ((1, 4), (2, 4), (3, 3)):
            for many in range(most + 1):
                rows = plain_rows(size, many)
                for start in plain_groupings(size):
                    ends = [(plain_done(start, other), other) for other in rows]
                    for row in rows[::1 if many < 3 else 31]:
                        for goal in plain_groupings(size):
                            found = [differing(row, other) for end, other in ends if end == goal]
                            self.check_row(start, row, goal, min(found, default=None))

    def test_by_what_so_many_changes_make(self):
        for size, turns in ((2, 20), (3, 20), (4, 12), (5, 5), (6, 3)):
            known = plain_groupings(size)
            for turn in range(turns):
                mixed = Random(turn)
                row = some_row(size, turn % 9, turn + 10)
                start, goal = mixed.choice(known), mixed.choice(known)
                self.check_row(start, row, goal, fewest_changes(start, row, goal))

    def test_eight_steps_of_six_people(self):
        for start, goal in ((0, -1), (50, 7), (101, 0)):
            start, goal = plain_groupings(6)[start], plain_groupings(6)[goal]
            row = some_row(6, 8, len(start))
            self.check_row(start, row, goal, fewest_changes(start, row, goal))

    def test_right_already(self):
        for size in SIZES:
            for many in (0, 1, 5, 8):
                row = some_row(size, many, size)
                start = plain_groupings(size)[-1]
                goal = plain_done(start, row)
                self.assertEqual(changed_row(start, row, goal), (0, row))
                self.assertIs(shows_changed_row(start, row, goal, (0, row)), True)
                self.assertIs(shows_changed_row(start, row, goal, None), False)

    def test_none_if_it_is_too_far(self):
        """A row may be longer than it needs be, but not shorter."""
        for size in SIZES:
            known = plain_groupings(size)
            for start in known[::1 + len(known) // 3]:
                for goal in known[::1 + len(known) // 3]:
                    for many in range(0, 9, 2):
                        row = ((0,),) * many
                        none = distance(start, goal) > many
                        self.assertIs(changed_row(start, row, goal) is None, none)
                        self.assertIs(shows_changed_row(start, row, goal, None), none)

    def test_no_steps(self):
        for start in plain_groupings(3):
            for goal in plain_groupings(3):
                self.assertEqual(changed_row(start, (), goal), (0, ()) if start == goal else None)
                self.assertIs(shows_changed_row(start, (), goal, (0, ())), start == goal)
                self.assertIs(shows_changed_row(start, (), goal, None), start != goal)

    def test_a_step_that_does_the_same_is_a_change(self):
        row, start = ((0, 2),), ((0, 1), (2,))
        self.assertIs(shows_changed_row(start, row, ALL, (0, ((0, 2),))), True)
        self.assertIs(shows_changed_row(start, row, ALL, (1, ((1, 2),))), False)
        self.assertIs(shows_changed_row(start, row, ALL, (0, ((1, 2),))), False)
        self.assertIs(shows_changed_row(start, ((0, 1),), ALL, (1, ((1, 2),))), True)
        self.assertIs(shows_changed_row(start, ((0, 1),), ALL, (1, ((0, 2),))), True)

    def test_too_many_steps(self):
        for many in (9, 10, 40):
            row = ((0,),) * many
            for call in (changed_row, lambda *told: shows_changed_row(*told, None)):
                for start in (GOOD, APART):
                    with self.assertRaises(TooMany) as caught:
                        call(start, row, APART)
                    self.assertEqual(caught.exception.most, 8)
            self.fails((BadGrouping, {}, None), changed_row, GOOD, row, ONLY)
            self.fails((BadGrouping, {}, None), changed_row, None, row, GOOD)
            self.fails((BadRow, {"index": many - 1}, None), changed_row, GOOD, row[1:] + ((3,),), GOOD)
            self.fails((BadGrouping, {}, None), shows_changed_row, GOOD, row, None, None)
        self.fails((BadRow, {"index": None}, None), changed_row, GOOD, ((0,),) * 41, GOOD)
        self.assertEqual(changed_row(GOOD, ((2,),) * 8, GOOD), (0, ((2,),) * 8))

    def test_size_one(self):
        for many in range(9):
            row = ((0,),) * many
            self.assertEqual(changed_row(ONLY, row, ONLY), (0, row))

    def test_bad_arguments(self):
        for size in (1, 2, 3):
            one = plain_groupings(size)[0]
            bads = [no_groupings(), bad_rows(size)[::3], bad_groupings(size)]
            self.refuses(changed_row, [one, ((0,),) * 3, one], bads)
            self.refuses(shows_changed_row, [one, ((0,),) * 3, one, None], bads + [[]])


class ShowsChangedRow(Case):
    def test_all_rows(self):
        for size, many in ((1, 2), (2, 2), (2, 3), (3, 2)):
            rows = plain_rows(size, many)
            for start in plain_groupings(size)[::2]:
                for row in rows[::5]:
                    for goal in plain_groupings(size):
                        fewest = fewest_changes(start, row, goal)
                        for other in rows:
                            changes = differing(row, other)
                            want = plain_done(start, other) == goal and changes == fewest
                            self.assertIs(shows_changed_row(start, row, goal, (changes, other)), want)
                            self.assertIs(shows_changed_row(start, row, goal, (changes + 1, other)), False)
                            self.assertIs(shows_changed_row(start, row, goal, (changes - 1, other)), False)

    def test_longer_and_shorter_rows(self):
        row = ((0, 1), (2,))
        self.assertIs(shows_changed_row(APART, row, GOOD, (0, row)), True)
        for value in ((0, row + ((2,),)), (0, row[:1]), (0, ()), (1, row[:1]), (0, row * 2), (1, row + ((2,),)),
                      (0, ((2,),) + row)):
            self.assertIs(shows_changed_row(APART, row, GOOD, value), False)

    def test_near_values(self):
        row = ((0, 1),)
        self.assertIs(shows_changed_row(GOOD, row, ALL, (1, ((0, 2),))), True)
        self.refuses_last(shows_changed_row, [GOOD, row, ALL], [
            (True, ((0, 2),)), (0, ((0, 2),)), (2, ((0, 2),)), (1, ((0, 1),)), (0, ((0, 1),)), (1, ()), [1, ((0, 2),)],
            (1, [(0, 2)]), (1, ([0, 2],)), (1, ((2, 0),)), (1, ((False, 2),)), (1, ((0, 3),)), (1, (None,)), (1, None),
            (1, (0, 2)), (1,), (1, ((0, 2),), 0), (((0, 2),), 1), None, 1, ("1", ((0, 2),)), (None, ((0, 2),)),
            (1, ((0, 2), (0, 2))), {1: ((0, 2),)}, (-1, ((0, 2),)), (1, ((),)), ((0, 2),), False, True])
        self.refuses_last(shows_changed_row, [GOOD, row, GOOD], [(False, row), (0, list(row)), None, (0, ((True,),))])

    def test_any_value(self):
        for value in ANY_VALUES:
            self.assertIs(shows_changed_row(GOOD, ((0, 2),), APART, value), False)
            self.assertIs(shows_changed_row(APART, ((0, 2),), ALL, value), value is None)
            want = isinstance(value, tuple) and value == (0, ()) and value[0] is not False
            self.assertIs(shows_changed_row(ALL, (), ALL, value), want)


class SameRows(Case):
    def test_by_all_rows(self):
        for size, most in ((1, 6), (2, 6), (3, 4)):
            known = plain_drawings(size)
            for many in range(most + 1):
                count = {}
                for row in plain_rows(size, many):
                    made = plain(plain_row_drawing(size, row))
                    count[made] = count.get(made, 0) + 1
                for made in known[::1 if size < 3 else 3]:
                    self.assertEqual(same_rows(made, many), count.get(plain(made), 0))

    def test_sum_over_all_deeds(self):
        for size, steps in ((1, 1), (2, 3), (3, 6)):
            for many in range(11):
                self.assertEqual(sum(same_rows(made, many) for made in deeds(size)), steps ** many)

    def test_drawings_that_do_the_same(self):
        for made in plain_drawings(3)[::5]:
            for many in (0, 3, 10):
                self.assertEqual(same_rows(made, many), same_rows(plain_drawing(made), many))

    def test_no_steps(self):
        for size in (1, 2, 3):
            for made in plain_drawings(size):
                self.assertEqual(same_rows(made, 0), int(plain(made) == plain(plain_idle(size))))
        swap = (((0,), (1,)), ((1,), (0,)))
        self.assertEqual([same_rows(swap, 0), same_rows((((), (0,)), ((0,), ())), 0)], [1, 1])

    def test_drawings_that_no_row_has(self):
        turn = (((0,), (1,)), ((1,), (2,)), ((2,), (0,)))
        swap = (((0,), (1,)), ((1,), (0,)), ((2,), (2,)))
        for made in (turn, swap):
            self.assertEqual([same_rows(made, many) for many in (0, 1, 5, 10)], [0, 0, 0, 0])

    def test_size_one(self):
        for made in plain_drawings(1):
            self.assertEqual([same_rows(made, many) for many in range(11)], [1] * 11)

    def test_too_many_people(self):
        for size in (4, 5, 6):
            for made in (plain_idle(size), plain_join(size)):
                self.fails((TooMany, {"most": 3}, None), same_rows, made, 3)
                for many in (-1, 11, True, None):
                    self.fails((BadCount, {}, many), same_rows, made, many)
        self.fails((BadDrawing, {}, None), same_rows, ((0,),), 11)

    def test_bad_arguments(self):
        self.refuses(same_rows, [plain_idle(3), 10], [no_drawings(), bad_counts(0, 10)])


if __name__ == "__main__":
    unittest.main()
