"""What several tests need: plain ways to the same answers, and values that are not allowed."""

import unittest
from itertools import combinations, product

from groupdeeds import errors

SIZES = range(1, 7)
HUGE = 10 ** 40

# Values of every kind that may be passed, none of which is a size, a count, a grouping, a step, a row or a drawing.
STRANGE = (None, True, False, "", "0", "abc", [], {}, [0], {0: 0}, {"a": (1,)}, -HUGE, HUGE, -1, 201)

ANY_VALUES = STRANGE + (
    0, 1, 2, (), (()), ((),), (((),),), (0,), (True,), (0, 1), (1, 0), [0, 1], [(0, 1)], ([0, 1],), ((0, 1),),
    ((0,), (1,)), [[0], [1]], ([0], [1]), ((False,), (True,)), ((0, True),), (("0",),), ((None,),), (None,), ("",),
    ((0,), None), ((0,), "1"), ({},), (([],),), ({0: 1}, 2), ((0, 1, 2),), ((0,),) * 41, ((0,),) * 301, (0, (0,)),
    (0, ()), (True, ()), ((), 0), (0, 0), (0, 0, 0), ((), ()), ((((0,),),),), (((0,), (0,)),), "((0,),)",
    ((0, 0),), ((0, 1, 1),), ((1,), (0,)), ((0, HUGE),), ((-1,),), (HUGE, ()), (HUGE,), (0, ((HUGE,),)),
)


class Case(unittest.TestCase):
    """A test case that also asks for an error's fields, and for errors in the place of each argument."""

    def fails(self, bad, call, *arguments):
        """Hold that a call raises just the error of a bad value, with its fields."""
        error, fields, value = bad
        with self.assertRaises(errors.GroupError, msg=f"{call.__name__}{arguments}") as caught:
            call(*arguments)
        self.assertIs(type(caught.exception), error, f"{call.__name__}{arguments}")
        for name in fields:
            self.assertEqual(getattr(caught.exception, name), fields[name], f"{call.__name__}{arguments}")

    def refuses(self, call, good, bads):
        """Hold that bad values in the place of each argument raise their errors, the leftmost one first."""
        for place, found in enumerate(bads):
            for bad in found:
                arguments = list(good)
                arguments[place] = bad[2]
                self.fails(bad, call, *arguments)
                for later in range(place + 1, len(bads)):
                    for worse in bads[later][:4] + bads[later][-4:]:
                        arguments = list(good)
                        arguments[place] = bad[2]
                        arguments[later] = worse[2]
                        self.fails(bad, call, *arguments)

    def refuses_last(self, call, good, values):
        """Hold that a function that shows something says False, and not 0 or None, to wrong last arguments."""
        for value in values:
            self.assertIs(call(*good, value), False, f"{call.__name__}: {value!r}")


def bads_of(error, values, **fields):
    """Return bad values with the error and the fields that they raise."""
    return [(error, fields, value) for value in values]


def bad_sizes():
    return bads_of(errors.BadSize, STRANGE + (0, 7, (3,), ((0,),)))


def bad_counts(least, most):
    return bads_of(errors.BadCount, STRANGE + (least - 1, most + 1, (least,), ((0,),)))


def no_groupings():
    """Return values that are no groupings of any size."""
    return bads_of(errors.BadGrouping, STRANGE + (0, 1) + (
        (), ((),), (0,), (0, 1), ((0, 1), ()), ((), (0,)), ((1,),), ((1,), (0,)), ((1, 0),), ((0, 0),), ((0,), (0,)),
        ((0, 1), (1,)), ((0,), (2,)), ((0, 2),), ((0,), (1, 3)), ((-1,), (0,)), ((0,), (True,)), ((False,),),
        ((0, True),), (("0",),), ("0",), ("01",), ((None,),), ((0, None),), [(0,), (1,)], ([0], [1]), ([0, 1],),
        ((0, 1, 2), (4, 5)), ((0,), (1,), 2), ({0: 1},), ((0, HUGE),), (((0,),),), ((0, (1,)),), ((0,), (2, 1)),
        ((0, 1, 2, 3, 4, 5, 6),), tuple((person,) for person in range(7)), ((0, 2), (1, 2)), ((1, 2), (0, 3)),
    ))


def bad_groupings(size):
    """Return values that are no groupings, and groupings of other sizes than this one."""
    others = [grouping for other in SIZES if other != size for grouping in plain_groupings(other)[:5]]
    return no_groupings() + bads_of(errors.BadGrouping, others)


def bad_steps(size):
    return bads_of(errors.BadStep, STRANGE + (0, 1) + (
        (), (0, 0), (1, 0), (size,), (0, size), (size, size + 1), (-1,), (-1, 0), (True,), (False,), (False, True),
        (0, True), ("0",), (None,), (0, None), ("0", "1"), [0], [0, 1], (0, 1, 2), (0, 0, 1), ((0,),), ((0,), (1,)),
        ((0, 1),), ([0],), ({},), (HUGE,), (0, HUGE), (0, (1,)),
    ))


def bad_rows(size):
    """Return values that are no rows of a size: no such tuples, and bad steps in several places."""
    found = bads_of(errors.BadRow, STRANGE + (0, 1, [(0,)], ((0,),) * 41, (None,) * 41, ((9,),) * 100), index=None)
    for bad in bad_steps(size):
        for at in (0, 1, 39):
            row = ((0,),) * at + (bad[2],) + ((0,),) * (39 - at)
            found = found + bads_of(errors.BadRow, (row, row[:at + 1], row[:at + 1] + row[at:39]), index=at)
    return found


def no_drawings():
    """Return values that are no drawings of any size."""
    good = (((0,), (0,)),)
    values = STRANGE + (0, 1) + (
        (), ((),), (((), ()),), good + (((), ()),), (((), ()),) + good, ((0, 0),), (((0,), 0),), ((0, (0,)),),
        (((0,),),), (((0,), (0,), (0,)),), [((0,), (0,))], ([(0,), (0,)],), (([0], [0]),), (((0,), [0]),),
        (((1,), (1,)),), (((0,), (1,)),), (((1,), (0,)),), (((-1,), (-1,)),), (((0,), ()),), (((), (0,)),),
        (((False,), (False,)),), (((0,), (False,)),), (((0, True), (0, 1)),), ((("0",), ("0",)),), ((None, (0,)),),
        (((0, 1), (0,)),), (((0,), (0, 1)),), (((1, 0), (0, 1)),), (((0, 1), (1, 0)),), (((0, 0), (0, 0)),),
        (((0, 1), (0, 1, 1)),), (((1,), (1,)), ((0,), (0,))), (((0,), ()), ((), (0,))), good + good, good + (((0,), ()),),
        good + (((1,), (0,)),), good + (((0,), (1,)),), good + (((2,), (2,)),), (((0, 2), (0, 1)),), "((0,),(0,))",
        (((0, HUGE), (0, 1)),), (((0,), (0,)), None), ((("0",), (0,)),), (((0, 1), (0, (1,))),), ({0: 1},),
        tuple(((person,), (person,)) for person in range(7)), ((tuple(range(7)), tuple(range(7))),),
    )
    return bads_of(errors.BadDrawing, values)


def bad_drawings(size):
    """Return values that are no drawings, and drawings of other sizes than this one."""
    others = [drawing for other in SIZES if other != size for drawing in (plain_idle(other), plain_join(other))]
    return no_drawings() + bads_of(errors.BadDrawing, others)


def bad_prices(size):
    """Return values that are no prices of a size, those of other sizes too."""
    leaves, joins = (1,) * size, (1,) * (size * (size - 1) // 2)
    values = STRANGE + (0, 1, (), (leaves,), (leaves, joins, ()), [leaves, joins], (list(leaves), joins)) + (
        (leaves, list(joins)), (leaves + (1,), joins), (leaves[1:], joins), (leaves, joins + (1,)), (joins, None),
        (None, joins), (leaves, None), (leaves, 1), (1, joins), ((), ()), (leaves[1:] + (-1,), joins), "11",
        (leaves[1:] + (1001,), joins), ((True,) + leaves[1:], joins), (leaves[1:] + (None,), joins),
        (leaves[1:] + ("1",), joins), (leaves[1:] + ((1,),), joins), ((HUGE,) + leaves[1:], joins),
        {0: leaves, 1: joins}, ((1,) * (size + 1), (1,) * (size * (size + 1) // 2)), (leaves, joins, 0),
    )
    if joins:
        for price in (-1, 1001, True, False, None, "1", (1,), HUGE, -HUGE):
            values = values + ((leaves, (price,) + joins[1:]), (leaves, joins[1:] + (price,)))
        values = values + ((leaves, joins[1:]), ((1,) * (size - 1), (1,) * ((size - 1) * (size - 2) // 2)))
    return bads_of(errors.BadPrices, values)


def plain_parts(people):
    """Return all ways to part a list of people: the first one with each of the ways to choose who is with it."""
    if not people:
        return [[]]
    found = []
    for many in range(len(people)):
        for company in combinations(people[1:], many):
            left = [person for person in people[1:] if person not in company]
            found.extend([[(people[0],) + company] + rest for rest in plain_parts(left)])
    return found


def plain_groupings(size):
    return sorted(tuple(sorted(lots)) for lots in plain_parts(list(range(size))))


def plain_drawings(size):
    """Return all drawings: the ways to part the points before and behind."""
    found = []
    for lots in plain_parts(list(range(2 * size))):
        found.append(as_drawing([([p for p in lot if p < size], [p - size for p in lot if p >= size]) for lot in lots]))
    return sorted(found)


def as_drawing(pairs):
    return tuple(sorted((tuple(sorted(before)), tuple(sorted(behind))) for before, behind in pairs))


def plain_idle(size):
    return tuple(((person,), (person,)) for person in range(size))


def plain_join(size):
    return ((tuple(range(size)), tuple(range(size))),)


def plain_steps(size):
    return sorted([(one,) for one in range(size)] + [(one, two) for one in range(size) for two in range(one + 1, size)])


def plain_rows(size, many):
    return list(product(plain_steps(size), repeat=many))


def knots(points, links):
    """Return the lists of points that hang together by links, walking from point to point."""
    found, left = [], list(points)
    while left:
        knot, fresh = [], [left[0]]
        while fresh:
            point = fresh.pop()
            if point not in knot:
                knot.append(point)
                fresh.extend([two for one, two in links if one == point] + [one for one, two in links if two == point])
        found.append(knot)
        left = [point for point in left if point not in knot]
    return found


def side_links(drawing, before, behind):
    """Return links between all points of each pair of a drawing, which are named by their side."""
    found = []
    for pair in drawing:
        points = [(before, person) for person in pair[0]] + [(behind, person) for person in pair[1]]
        found.extend([(points[0], point) for point in points])
    return found


def plain_after(one, other):
    """Return the drawing of two drawings from the points of three sides."""
    size = sum(len(pair[0]) for pair in one)
    points = [(side, person) for side in range(3) for person in range(size)]
    found = []
    for knot in knots(points, side_links(one, 0, 1) + side_links(other, 1, 2)):
        pair = ([p for side, p in knot if side == 0], [p for side, p in knot if side == 2])
        if pair != ([], []):
            found.append(pair)
    return as_drawing(found)


def plain_drawn(drawing, grouping):
    size = sum(len(lot) for lot in grouping)
    points = [(side, person) for side in range(2) for person in range(size)]
    links = side_links(drawing, 0, 1) + [((0, lot[0]), (0, person)) for lot in grouping for person in lot]
    lots = [tuple(sorted(p for side, p in knot if side == 1)) for knot in knots(points, links)]
    return tuple(sorted(lot for lot in lots if lot))


def plain_step(grouping, step):
    """Return the grouping behind a step from who is together with whom."""
    size = sum(len(lot) for lot in grouping)
    links = [(lot[0], person) for lot in grouping for person in lot] + [(step[0], step[-1])]
    if len(step) == 1:
        lots = [[person for person in lot if person != step[0]] for lot in grouping]
        links = [(lot[0], person) for lot in lots for person in lot]
    return tuple(sorted(tuple(sorted(knot)) for knot in knots(range(size), links)))


def plain_done(grouping, row):
    for step in row:
        grouping = plain_step(grouping, step)
    return grouping


def plain_step_drawing(size, step):
    rest = [((person,), (person,)) for person in range(size) if person not in step]
    return as_drawing(rest + ([(step, step)] if len(step) == 2 else [(step, ()), ((), step)]))


def plain_row_drawing(size, row):
    made = plain_idle(size)
    for step in row:
        made = plain_after(made, plain_step_drawing(size, step))
    return made


def walked(start, moves):
    """Return a dict of all that moves lead to from a start, each with the least number of moves."""
    far, fresh = {start: 0}, [start]
    for here in fresh:
        for there in moves(here):
            if there not in far:
                far[there] = far[here] + 1
                fresh.append(there)
    return far


def coming_drawings(size):
    """Return a dict of all drawings of rows, each with the least number of steps, walking from the idle one."""
    steps = [plain_step_drawing(size, step) for step in plain_steps(size)]
    return walked(plain_idle(size), lambda made: [plain_after(made, step) for step in steps])


def tie_number(drawing):
    return len([pair for pair in drawing if pair[0] and pair[1]])


def some_drawings(size, many, seed):
    """Return drawings of a size with all numbers of ties, always the same ones for a seed."""
    found = []
    while len(found) < many:
        marks = [[], []]
        for at in range(2 * size):
            # Numbers that look mixed but are the same in every run.
            seed = (seed * 1103515245 + 12345) & 0x7FFFFFFF
            marks[at // size].append((seed >> 16) % (size + len(found) % 3))
        pairs = []
        for mark in range(size + 2):
            pair = tuple([person for person in range(size) if side[person] == mark] for side in marks)
            pairs = pairs + ([pair] if pair != ([], []) else [])
        found.append(as_drawing(pairs))
    return found
