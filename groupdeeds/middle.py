"""Groupings in the middle of others, and what stands on the shortest rows from one to another."""

from groupdeeds.checks import check_grouping, check_groupings, grouping_size, is_grouping, is_some, wrong_groupings
from groupdeeds.errors import BadGroupings
from groupdeeds.groupings import all_steps, groupings, stepped
from groupdeeds.moving import steps_between

MOST_SOME = 8


def check_some(value):
    """Raise an error for a value that is not a tuple of 1 to 8 things."""
    if not is_some(value, MOST_SOME):
        raise BadGroupings(None)


def check_some_of(value, size):
    """Raise an error for a value that is not a tuple of 1 to 8 groupings of a size."""
    check_some(value)
    wrong = wrong_groupings(value, size)
    if wrong:
        raise BadGroupings(wrong[0])


def ways_to(grouping, some):
    """Return the list of the distances from a grouping to others; all are good."""
    return [steps_between(grouping, one) for one in some]


def sum_of_ways(grouping, some):
    """Return the sum of the distances from a grouping to others."""
    check_grouping(grouping)
    check_some_of(some, grouping_size(grouping))
    return sum(ways_to(grouping, some))


def farthest_of(grouping, some):
    """Return the greatest distance from a grouping to others."""
    check_grouping(grouping)
    check_some_of(some, grouping_size(grouping))
    return max(ways_to(grouping, some))


def middle_ones(some):
    """Return the ascending tuple of the groupings from which the sum of the distances to some is least."""
    check_some(some)
    if not is_grouping(some[0]):
        raise BadGroupings(0)
    size = grouping_size(some[0])
    check_some_of(some, size)
    sums = {known: sum(ways_to(known, some)) for known in groupings(size)}
    least = min(list(sums.values()))
    return tuple([known for known in sums if sums[known] == least])


def between(start, goal):
    """Return the ascending tuple of the groupings on some shortest row from one to another, both too."""
    check_groupings(start, goal)
    far = steps_between(start, goal)
    known = groupings(grouping_size(start))
    return tuple([one for one in known if steps_between(start, one) + steps_between(one, goal) == far])


def shortest_count(start, goal):
    """Return the number of the shortest rows that make the goal of the start."""
    check_groupings(start, goal)
    steps = all_steps(grouping_size(start))
    ways = {start: 1}
    for left in reversed(range(steps_between(start, goal))):
        later = {}
        for here in ways:
            for there in [stepped(here, step) for step in steps]:
                if steps_between(there, goal) == left:
                    later[there] = later.get(there, 0) + ways[here]
        ways = later
    return ways[goal]


def round_trip(one, other):
    """Return the number of steps from one grouping to another and back."""
    check_groupings(one, other)
    return steps_between(one, other) + steps_between(other, one)
