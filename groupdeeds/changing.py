"""Rows changed in few places to make a goal, and how many rows do the same."""

from groupdeeds.checks import check_count, check_drawing, check_few, check_grouping, check_grouping_of, check_row
from groupdeeds.checks import drawing_size, grouping_size, is_numbered_row
from groupdeeds.groupings import all_stepped, all_steps, groupings, step_numbers
from groupdeeds.leading import numbers_made

MOST_CHANGED = 8
MOST_SAME_STEPS = 10
MOST_FOR_SAME = 3


def check_change(start, row, goal):
    """Raise an error for values that are not a grouping, a row of at most 8 steps and a grouping of the same size."""
    check_grouping(start)
    size = grouping_size(start)
    check_row(row, size)
    check_grouping_of(goal, size)
    check_few(len(row), MOST_CHANGED)


def changes_left(row, goal):
    """Return, for 0, 1, .. steps taken, the list of the fewest changes of the others by which groupings become a goal.

    Groupings ascend; where no change helps, the number is greater than that of the steps.
    """
    size = grouping_size(goal)
    steps = all_steps(size)
    behind = step_numbers(size)
    never = len(row) + 1
    table = [[0 if known == goal else never for known in groupings(size)]]
    for step in reversed(row):
        costs = [0 if one == step else 1 for one in steps]
        later = table[-1]
        table.append([min([later[to] + cost for to, cost in zip(numbers, costs)]) for numbers in behind])
    return list(reversed(table))


def fewest_changes(start, row, goal):
    """Return the fewest changes of a row by which it makes the goal of the start, None if none do."""
    many = changes_left(row, goal)[0][groupings(grouping_size(start)).index(start)]
    return many if many <= len(row) else None


def row_changed(start, row, goal):
    """Return a row that differs from one in the fewest places and makes the goal of the start; there is one."""
    size = grouping_size(start)
    steps = all_steps(size)
    behind = step_numbers(size)
    here = groupings(size).index(start)
    made = ()
    for step, later in zip(row, changes_left(row, goal)[1:]):
        hoped = [later[to] + (0 if one == step else 1) for one, to in zip(steps, behind[here])]
        at = hoped.index(min(hoped))
        made = made + (steps[at],)
        here = behind[here][at]
    return made


def changed_row(start, row, goal):
    """Return the pair (changes, row) of a row as long that makes the goal and differs in the fewest places, or None."""
    check_change(start, row, goal)
    many = fewest_changes(start, row, goal)
    return None if many is None else (many, row_changed(start, row, goal))


def shows_changed_row(start, row, goal, value):
    """Return whether a value is the pair (changes, row) of a row changed in the fewest places, or rightly None."""
    check_change(start, row, goal)
    many = fewest_changes(start, row, goal)
    if value is None:
        return many is None
    if not is_numbered_row(value, grouping_size(start), len(row)) or len(value[1]) != len(row):
        return False
    if all_stepped(start, value[1]) != goal:
        return False
    return value[0] == many == len([step for step, other in zip(row, value[1]) if step != other])


def same_rows(drawing, many):
    """Return the number of rows of so many steps that do the same as a drawing."""
    check_drawing(drawing)
    check_count(many, 0, MOST_SAME_STEPS)
    check_few(drawing_size(drawing), MOST_FOR_SAME)
    behind = step_numbers(drawing_size(drawing))
    # What rows do: for each grouping, the number of the one that they make of it.
    ways = {tuple(range(len(behind))): 1}
    for _ in range(many):
        later = {}
        for deed in ways:
            for at in range(len(behind[0])):
                made = tuple([behind[number][at] for number in deed])
                later[made] = later.get(made, 0) + ways[deed]
        ways = later
    return ways.get(numbers_made(drawing), 0)
