"""How few steps lead from one grouping to another, and how many rows do."""

from groupdeeds.checks import check_count, check_grouping, check_groupings, grouping_size, is_row
from groupdeeds.groupings import all_stepped, all_steps, groupings, step_numbers, stepped
from groupdeeds.order import most_shared

MOST_FAR = 20
MOST_WAY = 12


def steps_between(start, goal):
    """Return the least number of steps from a good grouping to another one of its size."""
    leavers = grouping_size(start) - sum(most_shared(start, goal))
    return 2 * leavers + len(start) - len(goal)


def nearer_step(start, goal):
    """Return the smallest step that brings a grouping nearer to another one."""
    near = steps_between(start, goal) - 1
    steps = all_steps(grouping_size(start))
    return [step for step in steps if steps_between(stepped(start, step), goal) == near][0]


def distance(start, goal):
    """Return the least number of steps of a row that makes the goal of the start."""
    check_groupings(start, goal)
    return steps_between(start, goal)


def fewest(start, goal):
    """Return the smallest of the shortest rows that make the goal of the start."""
    check_groupings(start, goal)
    row = ()
    here = start
    while here != goal:
        step = nearer_step(here, goal)
        row = row + (step,)
        here = stepped(here, step)
    return row


def shows_fewest(start, goal, value):
    """Return whether a value is a shortest row that makes the goal of the start."""
    check_groupings(start, goal)
    if not is_row(value, grouping_size(start)) or len(value) != steps_between(start, goal):
        return False
    return all_stepped(start, value) == goal


def farthest(grouping):
    """Return the greatest distance from a grouping."""
    check_grouping(grouping)
    return max([steps_between(grouping, known) for known in groupings(grouping_size(grouping))])


def around(grouping, many):
    """Return the ascending tuple of all groupings at just a distance from a grouping."""
    check_grouping(grouping)
    check_count(many, 0, MOST_FAR)
    return tuple([known for known in groupings(grouping_size(grouping)) if steps_between(grouping, known) == many])


def way_count(start, goal, many):
    """Return the number of rows of just so many steps that make the goal of the start."""
    check_groupings(start, goal)
    check_count(many, 0, MOST_WAY)
    known = groupings(grouping_size(start))
    behind = step_numbers(grouping_size(start))
    ways = [1 if grouping == goal else 0 for grouping in known]
    for _ in range(many):
        ways = [sum([ways[number] for number in numbers]) for numbers in behind]
    return ways[known.index(start)]
