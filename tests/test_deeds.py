"""Point 6: which drawings do the same."""

import unittest

from groupdeeds.deeds import crossed, deed_count, deeds_by_ties, plain_drawing, same_deed, shows_telling, telling
from groupdeeds.errors import NoTwo
from tests.helpers import ANY_VALUES, SIZES, Case, as_drawing, bad_drawings, bad_groupings, bad_sizes
from tests.helpers import coming_drawings, no_drawings, plain_drawings, plain_drawn, plain_groupings, plain_idle
from tests.helpers import plain_step, plain_steps, some_drawings, tie_number, walked

TWO = (((0,), (0,)), ((1,), (1,)))
SWAP = (((0,), (1,)), ((1,), (0,)))
FLAT = (((), (0,)), ((), (1,)), ((0, 1), ()))
THREE = (((0,), (1,)), ((1,), (0,)), ((2,), (2,)))


def deed(made):
    """Return what a drawing makes of all groupings."""
    size = sum(len(pair[0]) for pair in made)
    return tuple(plain_drawn(made, grouping) for grouping in plain_groupings(size))


def plain(made):
    """Return the plain drawing, word for word as the document has it."""
    size = sum(len(pair[0]) for pair in made)
    if tie_number(made) < 2:
        return as_drawing([((person,), ()) for person in range(size)] + [((), pair[1]) for pair in made if pair[1]])
    return min(made, exchanged(made)) if tie_number(made) == 2 else made


def exchanged(made):
    (one, two) = [pair for pair in made if pair[0] and pair[1]]
    rest = [pair for pair in made if not pair[0] or not pair[1]]
    return as_drawing(rest + [(one[0], two[1]), (two[0], one[1])])


def drawings_by_ties(size):
    """Return a dict with the numbers of drawings by ties, their points put in one after another."""
    # Keys: lots of points before only, ties, lots of points behind only.
    ways = {(0, 0, 0): 1}
    for at in range(2 * size):
        later = {}
        for (before, tied, behind), count in ways.items():
            if at < size:
                moves = [((before + 1, 0, 0), 1), ((before, 0, 0), before)]
            else:
                moves = [((before - 1, tied + 1, behind), before), ((before, tied, behind), tied + behind),
                         ((before, tied, behind + 1), 1)]
            for state, times in moves:
                later[state] = later.get(state, 0) + count * times
        ways = later
    return {tied: sum(ways[state] for state in ways if state[1] == tied) for _, tied, _ in ways}


class Deeds(Case):
    def test_example(self):
        got = [same_deed(SWAP, TWO), telling(SWAP, TWO), plain_drawing(SWAP) == TWO, crossed(SWAP) == TWO,
               deed_count(4), deeds_by_ties(3)]
        self.assertEqual(got, [True, None, True, True, 1577, (5, 0, 36, 1)])

    def test_same_deed_by_every_grouping(self):
        for size in (1, 2, 3):
            known = {made: deed(made) for made in plain_drawings(size)}
            for one in known:
                for other in known:
                    self.assertIs(same_deed(one, other), known[one] == known[other])

    def test_same_deed_of_greater_sizes(self):
        for size in (4, 5, 6):
            known = {made: deed(made) for made in some_drawings(size, 25, 2)}
            for made in list(known):
                known[plain(made)] = deed(plain(made))
                if tie_number(made) == 2:
                    known[exchanged(made)] = deed(exchanged(made))
            for one in known:
                for other in known:
                    self.assertIs(same_deed(one, other), known[one] == known[other])

    def test_plain_drawing(self):
        for size in SIZES:
            for made in plain_drawings(size) if size < 5 else some_drawings(size, 200, 6):
                self.assertEqual(plain_drawing(made), plain(made))

    def test_plain_drawing_does_the_same(self):
        for size in (1, 2, 3):
            stands = {}
            for made in plain_drawings(size):
                stands.setdefault(deed(made), set()).add(plain_drawing(made))
                self.assertEqual(deed(plain_drawing(made)), deed(made))
                self.assertEqual(plain_drawing(plain_drawing(made)), plain_drawing(made))
            self.assertEqual({len(found) for found in stands.values()}, {1})

    def test_plain_drawings_by_ties(self):
        self.assertEqual(plain_drawing(plain_idle(1)), (((), (0,)), ((0,), ())))
        self.assertEqual(plain_drawing(FLAT), (((), (0,)), ((), (1,)), ((0,), ()), ((1,), ())))
        self.assertEqual(plain_drawing((((0, 1), (0, 1)),)), (((), (0, 1)), ((0,), ()), ((1,), ())))
        self.assertEqual(plain_drawing(TWO), TWO)
        self.assertEqual(plain_drawing(THREE), THREE)
        cut = (((), (1,)), ((0,), (2,)), ((1,), (0,)), ((2,), ()))
        self.assertEqual(plain_drawing(cut), (((), (1,)), ((0,), (0,)), ((1,), (2,)), ((2,), ())))

    def test_crossed(self):
        for size in range(2, 7):
            for made in plain_drawings(size) if size < 5 else some_drawings(size, 200, 8):
                if tie_number(made) == 2:
                    self.assertEqual(crossed(made), exchanged(made))
                    self.assertEqual(crossed(crossed(made)), made)
                else:
                    self.fails((NoTwo, {}, made), crossed, made)
        self.fails((NoTwo, {}, None), crossed, plain_idle(1))
        self.fails((NoTwo, {}, None), crossed, FLAT)

    def test_bad_arguments(self):
        for good in (plain_idle(1), TWO, THREE):
            size = sum(len(pair[0]) for pair in good)
            self.refuses(same_deed, [good, good], [no_drawings(), bad_drawings(size)])
            self.refuses(telling, [good, good], [no_drawings(), bad_drawings(size)])
            self.refuses(shows_telling, [good, good, None], [no_drawings(), bad_drawings(size), []])
        self.refuses(plain_drawing, [TWO], [no_drawings()])
        self.refuses(crossed, [TWO], [no_drawings()])


class Telling(Case):
    def check_pair(self, one, other):
        size = sum(len(pair[0]) for pair in one)
        known = plain_groupings(size)
        tells = [grouping for grouping in known if plain_drawn(one, grouping) != plain_drawn(other, grouping)]
        self.assertIn(telling(one, other), tells or [None])
        self.assertIs(shows_telling(one, other, None), not tells)
        for grouping in known:
            self.assertIs(shows_telling(one, other, grouping), grouping in tells)

    def test_all_of_small_sizes(self):
        for size in (1, 2):
            for one in plain_drawings(size):
                for other in plain_drawings(size):
                    self.check_pair(one, other)

    def test_others(self):
        for size in (3, 4, 5):
            tried = some_drawings(size, 14, size)
            for one in tried:
                for other in tried:
                    self.check_pair(one, other)
                self.check_pair(one, plain(one))
        self.check_pair(plain_idle(6), as_drawing([((0,), (1,)), ((1,), (0,))] + list(plain_idle(6)[2:])))

    def test_wrong_values(self):
        for one, other in ((TWO, FLAT), (TWO, SWAP), (THREE, plain_idle(3)), (plain_idle(1), plain_idle(1))):
            size = sum(len(pair[0]) for pair in one)
            wrong = [bad[2] for bad in bad_groupings(size) if bad[2] is not None]
            self.refuses_last(shows_telling, [one, other], wrong)
        self.refuses_last(shows_telling, [TWO, FLAT], [None, [(0, 1)], [[0, 1]], ([0, 1],), ((0, True),), ((0,), (1,)),
                                                       ((False, 1),), ((1, 0),), ((0, 1), ()), ((0, 1, 2),)])
        self.assertIs(shows_telling(TWO, FLAT, ((0, 1),)), True)

    def test_any_value(self):
        for value in ANY_VALUES:
            self.assertIs(shows_telling(SWAP, TWO, value), value is None)
            self.assertIn(shows_telling(TWO, FLAT, value), (True, False))


class Counts(Case):
    def test_by_walking(self):
        """Deeds are what rows make of all groupings; they are walked to step by step."""
        for size in (1, 2, 3, 4):
            known = plain_groupings(size)
            tables = [{one: plain_step(one, step) for one in known} for step in plain_steps(size)]
            found = walked(tuple(known), lambda made: [tuple(table[one] for one in made) for table in tables])
            self.assertEqual(deed_count(size), len(found))

    def test_by_ties(self):
        for size in (1, 2, 3):
            known = [tie_number(made) for made in {plain(made) for made in coming_drawings(size)}]
            self.assertEqual(deeds_by_ties(size), tuple(known.count(many) for many in range(size + 1)))

    def test_all_sizes(self):
        for size in SIZES:
            known = drawings_by_ties(size)
            want = [len(plain_groupings(size)), 0, known.get(2, 0) // 2] + [known.get(many, 0) for many in (3, 4, 5)]
            want = want[:size] + [1 if size > 1 else 0]
            self.assertEqual(deeds_by_ties(size), tuple(want))
            self.assertEqual(deed_count(size), sum(want))
        self.assertEqual([deed_count(size) for size in SIZES], [1, 3, 42, 1577, 64803, 2984860])

    def test_walking_by_tables(self):
        """All deeds of five people: what a step makes of all groupings is looked up as in a table of bytes."""
        known = plain_groupings(5)
        tables = [bytes([known.index(plain_step(one, step)) for one in known]).ljust(256) for step in plain_steps(5)]
        found = walked(bytes(range(len(known))), lambda made: [made.translate(table) for table in tables])
        self.assertEqual(deed_count(5), len(found))

    def test_bad_sizes(self):
        self.refuses(deed_count, [1], [bad_sizes()])
        self.refuses(deeds_by_ties, [1], [bad_sizes()])


if __name__ == "__main__":
    unittest.main()
