"""How many groupings there are with limits for the groups."""

from math import comb

from groupdeeds.checks import MOST_PEOPLE, check_count, check_grouping, check_size
from groupdeeds.counting import lots_counts
from groupdeeds.groupings import groupings

MOST_LIMITED = 60


def first_one_with(counts, people, least, most):
    """Return the number of ways to choose a group of at least and at most so many for the first of the people.

    The counts tell the numbers of ways to part 0, 1, .. others.
    """
    most = min(people, most)
    return sum([comb(people - 1, size - 1) * counts[people - size] for size in range(least, most + 1)])


def limited_count(many, most):
    """Return the number of groupings of so many people with no group of more than most."""
    check_count(many, 1, MOST_LIMITED)
    check_count(most, 1, MOST_LIMITED)
    counts = [1]
    for people in range(1, many + 1):
        counts.append(first_one_with(counts, people, 1, most))
    return counts[many]


def exact_count(many, lots, least):
    """Return the number of groupings of so many people in so many groups of at least so many people each."""
    check_count(many, 1, MOST_LIMITED)
    check_count(lots, 1, MOST_LIMITED)
    check_count(least, 1, MOST_LIMITED)
    # The numbers of groupings of 0, 1, .. people in as many groups as are counted so far.
    counts = [1] + [0] * many
    for _ in range(lots):
        counts = [first_one_with(counts, people, least, people) for people in range(many + 1)]
    return counts[many]


def limited_groupings(size, most):
    """Return the ascending tuple of the groupings with no group of more than most."""
    check_size(size)
    check_count(most, 1, MOST_PEOPLE)
    return tuple([known for known in groupings(size) if max([len(lot) for lot in known]) <= most])


def split_count(grouping, lots):
    """Return the number of groupings with so many groups that are finer than a grouping."""
    check_grouping(grouping)
    check_count(lots, 1, MOST_PEOPLE)
    # The numbers of ways to part the lots so far into 0, 1, .. groups.
    ways = [1] + [0] * lots
    for lot in grouping:
        counts = [0] + list(lots_counts(len(lot))) + [0] * lots
        ways = [sum([ways[total - more] * counts[more] for more in range(total + 1)]) for total in range(lots + 1)]
    return ways[lots]
