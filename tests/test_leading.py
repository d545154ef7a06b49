"""Point 7: all deeds, what goes on, and shortest rows of deeds."""

import unittest
from itertools import product

from groupdeeds.drawings import idle, step_drawing
from groupdeeds.errors import BadSize, NoRow, TooMany
from groupdeeds.leading import deed_length, deeds, goes_on, lead_row, shortest_deed, shows_lead_row
from tests.helpers import ANY_VALUES, HUGE, Case, bad_drawings, bad_rows, bad_sizes, coming_drawings
from tests.helpers import no_drawings, plain_after, plain_done, plain_drawings, plain_drawn, plain_groupings
from tests.helpers import plain_idle, plain_row_drawing, plain_rows, plain_step, plain_step_drawing, plain_steps
from tests.helpers import some_drawings, tie_number, walked
from tests.test_deeds import deed, plain

TWO = (((0,), (0,)), ((1,), (1,)))
SWAP = (((0,), (1,)), ((1,), (0,)))
FLAT = (((), (0,)), ((), (1,)), ((0, 1), ()))
JOIN = (((0, 1), (0, 1)),)


class Deeds(Case):
    def test_example(self):
        got = [len(deeds(2)), goes_on(idle(2), step_drawing(2, (0,))), goes_on(step_drawing(2, (0,)), idle(2)),
               lead_row(step_drawing(2, (0,)), idle(2)), deed_length(step_drawing(3, (0,))),
               shortest_deed((((), (0, 1)), ((0, 1), ())))]
        self.assertEqual(got, [3, True, False, None, 1, ((0, 1),)])

    def test_by_walking(self):
        for size in (1, 2, 3):
            self.assertEqual(deeds(size), tuple(sorted({plain(made) for made in coming_drawings(size)})))
        self.assertEqual(deeds(1), ((((), (0,)), ((0,), ())),))
        self.assertEqual(len(deeds(3)), 42)

    def test_sizes(self):
        for size in (4, 5, 6):
            self.fails((TooMany, {"most": 3}, size), deeds, size)
        for size in (0, 7, -1, True, HUGE):
            self.fails((BadSize, {}, size), deeds, size)
        self.refuses(deeds, [1], [bad_sizes()])


class GoesOn(Case):
    def test_by_walking(self):
        for size in (1, 2, 3):
            known = plain_drawings(size)
            steps = [plain_step_drawing(size, step) for step in plain_steps(size)]
            table = {made: [plain_after(made, step) for step in steps] for made in known}
            for one in known:
                found = walked(one, table.get)
                for other in known:
                    self.assertIs(goes_on(one, other), other in found)
                    self.check_row(one, other, other in found)

    def check_row(self, one, other, is_there):
        size = sum(len(pair[0]) for pair in one)
        row = lead_row(one, other)
        self.assertIs(shows_lead_row(one, other, row), True)
        self.assertIs(shows_lead_row(one, other, None), not is_there)
        if is_there:
            self.assertIs(type(row), tuple)
            self.assertLessEqual(len(row), 40)
            self.assertEqual(plain_after(one, plain_row_drawing(size, row)), other)
        else:
            self.assertIsNone(row)

    def test_behind_rows(self):
        for size in (4, 5, 6):
            steps = plain_steps(size)
            for turn, one in enumerate(some_drawings(size, 40, 9)):
                row = tuple(steps[(turn * 7 + at * at) % len(steps)] for at in range(turn % 6))
                other = plain_after(one, plain_row_drawing(size, row))
                self.assertIs(goes_on(one, other), True)
                self.assertIs(shows_lead_row(one, other, row), True)
                self.check_row(one, other, True)

    def test_by_the_words(self):
        """The second has fewer ties than people, keeps the lots that are cut off, and joins whole ties."""
        for size in (4, 5, 6):
            tried = some_drawings(size, 60, 4) + [plain_idle(size)]
            tried += [tuple(((person,), ((person + 1) % size,)) for person in range(size))]
            for one in tried:
                tied = [set(pair[0]) for pair in one if pair[0] and pair[1]]
                cut = [pair[0] for pair in one if pair[0] and not pair[1]]
                for other in tried:
                    ends = [pair[0] for pair in other if pair[0] and not pair[1]]
                    rest = [set(pair[0]) for pair in other if pair[0] and pair[0] not in cut]
                    whole = all(set().union(*[part for part in tied if part <= lot]) == lot for lot in rest)
                    fewer = tie_number(other) < size
                    want = one == other or (fewer and all(lot in ends for lot in cut) and whole)
                    self.assertIs(goes_on(one, other), want)
                    self.assertIs(lead_row(one, other) is None, not want)

    def test_ties_as_many_as_people(self):
        self.assertIs(goes_on(SWAP, SWAP), True)
        self.assertIs(goes_on(TWO, SWAP), False)
        self.assertIs(goes_on(SWAP, TWO), False)
        self.assertIs(goes_on(FLAT, SWAP), False)
        self.check_row(SWAP, FLAT, True)
        self.assertIs(goes_on(SWAP, JOIN), True)
        self.assertEqual(lead_row(SWAP, SWAP), ())
        self.check_row(SWAP, JOIN, True)

    def test_shows_of_all_short_rows(self):
        rows = [row for many in range(4) for row in plain_rows(2, many)]
        made_by = {row: plain_row_drawing(2, row) for row in rows}
        for one in plain_drawings(2):
            for other in plain_drawings(2):
                for row in rows:
                    want = plain_after(one, made_by[row]) == other
                    self.assertIs(shows_lead_row(one, other, row), want)

    def test_near_values(self):
        self.assertIs(shows_lead_row(TWO, JOIN, ((0, 1),) * 40), True)
        self.refuses_last(shows_lead_row, [TWO, JOIN], [
            None, ((0, 1),) * 41, ((0,),), (), [(0, 1)], ([0, 1],), ((1, 0),), ((0, True),), ((False, 1),), ((0, 2),),
            ((0, 1), (0,)), ((0, 1), ()), JOIN])
        self.refuses_last(shows_lead_row, [JOIN, TWO], [(), ((0,),), ((0, 1),), False, 0, [], {}])
        wrong = [bad[2] for bad in bad_rows(2) if bad[2] is not None]
        self.refuses_last(shows_lead_row, [TWO, JOIN], wrong)
        self.refuses_last(shows_lead_row, [JOIN, TWO], wrong)

    def test_any_value(self):
        for value in ANY_VALUES:
            self.assertIs(shows_lead_row(JOIN, TWO, value), value is None)
            self.assertIs(shows_lead_row(SWAP, SWAP, value), isinstance(value, tuple) and value == ())
            self.assertIn(shows_lead_row(TWO, JOIN, value), (True, False))

    def test_bad_arguments(self):
        for good in (plain_idle(1), TWO, plain_idle(4)):
            size = sum(len(pair[0]) for pair in good)
            self.refuses(goes_on, [good, good], [no_drawings(), bad_drawings(size)])
            self.refuses(lead_row, [good, good], [no_drawings(), bad_drawings(size)])
            self.refuses(shows_lead_row, [good, good, None], [no_drawings(), bad_drawings(size), []])


class Shortest(Case):
    def test_all_short_rows(self):
        """The first of all rows, the shorter ones first, that does the same."""
        for size, most in ((1, 2), (2, 3), (3, 4)):
            known = plain_groupings(size)
            first = {}
            for many in range(most + 1):
                for row in product(plain_steps(size), repeat=many):
                    first.setdefault(tuple(plain_done(one, row) for one in known), row)
            for made in coming_drawings(size):
                got = shortest_deed(made)
                self.assertEqual(deed_length(made), len(got))
                if deed(made) in first:
                    self.assertEqual(got, first[deed(made)])
                else:
                    self.assertGreater(len(got), most)

    def towards(self, size, made):
        """Return the shortest row by its length from each deed, walking from the goal to those before it."""
        known = plain_groupings(size)
        tables = [{one: plain_step(one, step) for one in known} for step in plain_steps(size)]
        behind = {}

        def moves(one):
            behind[one] = [tuple(table[grouping] for grouping in one) for table in tables]
            return behind[one]

        walked(tuple(known), moves)
        before = {one: [] for one in behind}
        for one in behind:
            for two in behind[one]:
                before[two].append(one)
        far = walked(deed(made), before.get)
        row, here = (), tuple(known)
        while far[here]:
            at = [far.get(there, -1) for there in behind[here]].index(far[here] - 1)
            row, here = row + (plain_steps(size)[at],), behind[here][at]
        return row

    def test_by_walking(self):
        for size, step in ((2, 1), (3, 6)):
            for made in list(coming_drawings(size))[::step]:
                self.assertEqual(shortest_deed(made), self.towards(size, made))
                self.assertEqual(deed_length(made), len(self.towards(size, made)))

    def test_four_people(self):
        for made in some_drawings(4, 12, 21) + [plain_idle(4)]:
            if tie_number(made) < 4 or made == plain_idle(4):
                want = self.towards(4, made)
                self.assertEqual(shortest_deed(made), want)
                self.assertEqual(deed_length(made), len(want))

    def test_does_the_same(self):
        for made in some_drawings(4, 40, 33):
            if tie_number(made) < 4:
                row = shortest_deed(made)
                got = tuple(plain_done(one, row) for one in plain_groupings(4))
                self.assertEqual(got, tuple(plain_drawn(made, one) for one in plain_groupings(4)))

    def test_no_steps(self):
        for size in (1, 2, 3, 4):
            self.assertEqual([deed_length(plain_idle(size)), shortest_deed(plain_idle(size))], [0, ()])
        cut = (((), (0,)), ((0,), ()))
        self.assertEqual([deed_length(cut), shortest_deed(cut)], [0, ()])

    def test_errors(self):
        turned = tuple(((person,), ((person + 1) % 5,)) for person in range(5))
        rest = plain_idle(6)[1:5] + (((5,), (0,)), ((0,), (5,)))
        join = (((0, 1), (0, 1)),) + plain_idle(5)[2:]
        for call in (deed_length, shortest_deed):
            for made in (SWAP, turned, tuple(sorted(rest))):
                self.fails((NoRow, {}, made), call, made)
            for made in (plain_idle(5), plain_idle(6), join, ((tuple(range(6)), tuple(range(6))),)):
                self.fails((TooMany, {"most": 4}, made), call, made)
            self.refuses(call, [TWO], [no_drawings()])


if __name__ == "__main__":
    unittest.main()
