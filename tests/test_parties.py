"""Point 23: parties, which keep a grouping and take steps back."""

import unittest
from random import Random

from groupdeeds.drawings import drawing
from groupdeeds.errors import BadPerson, NothingToUndo
from groupdeeds.groupings import done
from groupdeeds.parties import Party
from tests.helpers import HUGE, SIZES, STRANGE, Case, bad_sizes, plain_after, plain_done, plain_idle, plain_row_drawing
from tests.helpers import plain_step, plain_step_drawing
from tests.arguments import bad_people


def alone(size):
    return tuple((person,) for person in range(size))


def told(party):
    """Return all that a party tells of itself."""
    return [party.groups(), party.steps(), party.drawing()]


class Parties(Case):
    def take(self, party, step):
        """Let a party take a step; hold that it tells what it should of it."""
        before = party.groups()
        lots = {person: lot for lot in before for person in lot}
        if len(step) == 1:
            left = party.leave(step[0])
            self.assertEqual(left, tuple(person for person in lots[step[0]] if person != step[0]))
            self.assertIs(type(left), tuple)
        else:
            self.assertIs(party.join(*step), lots[step[0]] != lots[step[1]])
        self.assertEqual(party.groups(), plain_step(before, tuple(sorted(step))))

    def some_step(self, size, mixed):
        """Return a step, the two of a joining in any order."""
        if size == 1 or mixed.random() < 0.4:
            return (mixed.randrange(size),)
        return tuple(mixed.sample(range(size), 2))

    def test_example(self):
        party = Party(3)
        got = [party.join(1, 0), party.join(0, 1), party.leave(0), party.join(0, 2), party.groups(), party.steps(),
               party.undo(), party.groups(), party.drawing()]
        self.assertEqual(got, [True, False, (1,), True, ((0, 2), (1,)), 4, None, ((0,), (1,), (2,)),
                               (((), (0,)), ((0, 1), (1,)), ((2,), (2,)))])

    def test_at_first(self):
        for size in SIZES:
            self.assertEqual(told(Party(size)), [alone(size), 0, plain_idle(size)])

    def test_rows_of_steps(self):
        for size in SIZES:
            for seed in range(12):
                mixed, party, row = Random(seed), Party(size), ()
                for _ in range(12):
                    step = self.some_step(size, mixed)
                    self.take(party, step)
                    row = row + (tuple(sorted(step)),)
                    want = [done(alone(size), row), len(row), drawing(size, row)]
                    self.assertEqual(told(party), want)
                self.assertEqual(want, [plain_done(alone(size), row), 12, plain_row_drawing(size, row)])

    def test_taken_back_call_by_call(self):
        for size in SIZES:
            for seed in range(8):
                mixed, party, past = Random(seed), Party(size), []
                for _ in range(25):
                    past.append(told(party))
                    self.take(party, self.some_step(size, mixed))
                while past:
                    self.assertIsNone(party.undo())
                    self.assertEqual(told(party), past.pop())
                self.fails((NothingToUndo, {}, None), party.undo)

    def test_steps_and_taking_back_by_turns(self):
        for size in SIZES:
            for seed in range(8):
                mixed, party, row = Random(seed), Party(size), ()
                for _ in range(60):
                    if row and mixed.random() < 0.45:
                        self.assertIsNone(party.undo())
                        row = row[:-1]
                    else:
                        step = self.some_step(size, mixed)
                        self.take(party, step)
                        row = row + (tuple(sorted(step)),)
                    self.assertLessEqual(len(row), 40)
                    self.assertEqual(told(party), [plain_done(alone(size), row), len(row), drawing(size, row)])

    def test_more_steps_than_a_row_has(self):
        mixed, party, made, here = Random(1), Party(4), plain_idle(4), alone(4)
        for many in range(1, 151):
            step = self.some_step(4, mixed)
            self.take(party, step)
            made = plain_after(made, plain_step_drawing(4, tuple(sorted(step))))
            here = plain_step(here, tuple(sorted(step)))
            self.assertEqual(told(party), [here, many, made])
        for _ in range(150):
            party.undo()
        self.assertEqual(told(party), [alone(4), 0, plain_idle(4)])

    def test_calls_that_change_no_group(self):
        """They are steps all the same: they are counted, drawn and taken back."""
        party = Party(3)
        self.assertEqual(party.leave(1), ())
        self.assertEqual(told(party), [alone(3), 1, plain_step_drawing(3, (1,))])
        self.assertIs(party.join(2, 0), True)
        self.assertIs(party.join(0, 2), False)
        self.assertEqual(told(party)[:2], [((0, 2), (1,)), 3])
        party.undo()
        self.assertEqual(told(party)[:2], [((0, 2), (1,)), 2])
        party.undo()
        self.assertEqual(told(party), [alone(3), 1, plain_step_drawing(3, (1,))])
        party.undo()
        self.assertEqual(told(party), [alone(3), 0, plain_idle(3)])

    def test_whole_groups_join(self):
        party = Party(6)
        self.assertEqual([party.join(0, 1), party.join(3, 2), party.join(3, 1), party.join(2, 0)], [True] * 3 + [False])
        self.assertEqual(party.groups(), ((0, 1, 2, 3), (4,), (5,)))
        self.assertEqual([party.leave(2), party.leave(2), party.leave(0)], [(0, 1, 3), (), (1, 3)])
        self.assertEqual(party.groups(), ((0,), (1, 3), (2,), (4,), (5,)))

    def test_nothing_to_undo(self):
        for size in SIZES:
            party = Party(size)
            for _ in range(3):
                self.fails((NothingToUndo, {}, None), party.undo)
                self.assertEqual(told(party), [alone(size), 0, plain_idle(size)])
            party.leave(0)
            party.undo()
            self.fails((NothingToUndo, {}, None), party.undo)
            self.assertEqual(party.leave(0), ())
            self.assertEqual(party.steps(), 1)

    def test_size_one(self):
        party = Party(1)
        self.assertEqual([party.leave(0), party.leave(0)], [(), ()])
        self.assertEqual(told(party), [((0,),), 2, (((), (0,)), ((0,), ()))])
        self.fails((BadPerson, {}, None), party.join, 0, 0)

    def test_parties_do_not_share_steps(self):
        one, other = Party(2), Party(2)
        one.join(0, 1)
        self.assertEqual([told(other), told(one)[:2]], [[alone(2), 0, plain_idle(2)], [((0, 1),), 1]])
        other.leave(0)
        one.undo()
        self.assertEqual([one.steps(), other.steps()], [0, 1])

    def test_errors_change_nothing(self):
        for size in SIZES:
            party = Party(size)
            party.leave(size - 1)
            before = told(party)
            for bad in bad_people(size):
                self.fails(bad, party.leave, bad[2])
                self.fails(bad, party.join, bad[2], 0)
                self.fails(bad, party.join, 0, bad[2])
                self.fails(bad, party.join, bad[2], bad[2])
                self.fails(bad, party.join, bad[2], None)
                self.assertEqual(told(party), before)
            for person in range(size):
                self.fails((BadPerson, {}, person), party.join, person, person)
            self.assertEqual(told(party), before)
            party.undo()
            self.assertEqual(party.steps(), 0)

    def test_true_is_no_person(self):
        party = Party(2)
        for one, other in ((True, 0), (0, True), (False, 1), (1, False), (False, True), (1, HUGE), (0, -1), (0, 2)):
            self.fails((BadPerson, {}, None), party.join, one, other)
        self.fails((BadPerson, {}, None), party.leave, True)
        self.assertEqual(party.steps(), 0)

    def test_bad_sizes(self):
        self.refuses(Party, [1], [bad_sizes()])
        for value in STRANGE:
            self.fails((bad_sizes()[0][0], {}, value), Party, value)

    def test_methods_are_the_class_s_own(self):
        for name in ("join", "leave", "groups", "steps", "drawing", "undo"):
            self.assertIn(name, vars(Party))


if __name__ == "__main__":
    unittest.main()
