"""Groupings, steps and rows."""

from itertools import combinations

from groupdeeds.checks import check_count, check_grouping, check_row, check_size, check_step, grouping_size


def lots_of(marks):
    """Return the grouping in which people are together if they have the same mark."""
    lots = {}
    for person, mark in enumerate(marks):
        lots.setdefault(mark, []).append(person)
    # Each lot is begun by its least person, so the lots ascend too.
    return tuple([tuple(lot) for lot in lots.values()])


def marks_of(grouping):
    """Return the list with, for each person, the index of its lot."""
    marks = [0] * grouping_size(grouping)
    for at, lot in enumerate(grouping):
        for person in lot:
            marks[person] = at
    return marks


def united(many, links):
    """Return a mark for each of so many things; those that chains of links tie have the same one."""
    marks = list(range(many))
    for one, other in links:
        old, new = marks[other], marks[one]
        marks = [new if mark == old else mark for mark in marks]
    return marks


def all_steps(size):
    """Return the list of all steps of a size, ascending."""
    return sorted([(person,) for person in range(size)] + list(combinations(range(size), 2)))


def stepped(grouping, step):
    """Return the grouping behind a step; both are good."""
    if len(step) == 1:
        left = [tuple([person for person in lot if person != step[0]]) for lot in grouping]
        return tuple(sorted([lot for lot in left if lot] + [step]))
    met_lots = [lot for lot in grouping if step[0] in lot or step[1] in lot]
    joined = tuple(sorted([person for lot in met_lots for person in lot]))
    return tuple(sorted([lot for lot in grouping if lot not in met_lots] + [joined]))


def all_stepped(grouping, row):
    """Return the grouping behind the steps of a row, of whatever length; both are good."""
    for step in row:
        grouping = stepped(grouping, step)
    return grouping


def groupings(size):
    """Return the ascending tuple of all groupings of a size."""
    check_size(size)
    words = [()]
    for _ in range(size):
        words = [word + (mark,) for word in words for mark in range(max(word, default=-1) + 2)]
    return tuple(sorted([lots_of(word) for word in words]))


def step_numbers(size):
    """Return, for each grouping and each step, both ascending, the number of the grouping behind it."""
    known = groupings(size)
    numbers = {grouping: at for at, grouping in enumerate(known)}
    return [[numbers[stepped(grouping, step)] for step in all_steps(size)] for grouping in known]


def grouping_count(size):
    """Return how many groupings there are of so many people."""
    check_count(size, 0, 100)
    # Rows of the Bell triangle: each begins with the last number of the one above.
    numbers = [1]
    for _ in range(size):
        below = [numbers[-1]]
        for number in numbers:
            below.append(below[-1] + number)
        numbers = below
    return numbers[0]


def step_done(grouping, step):
    """Return the grouping behind a step."""
    check_grouping(grouping)
    check_step(step, grouping_size(grouping))
    return stepped(grouping, step)


def done(grouping, row):
    """Return the grouping behind the steps of a row."""
    check_grouping(grouping)
    check_row(row, grouping_size(grouping))
    return all_stepped(grouping, row)


def traced(grouping, row):
    """Return the tuple of the groupings at first and behind each step of a row."""
    check_grouping(grouping)
    check_row(row, grouping_size(grouping))
    passed = [grouping]
    for step in row:
        passed.append(stepped(passed[-1], step))
    return tuple(passed)
