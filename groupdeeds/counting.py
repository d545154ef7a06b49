"""How many groupings there are: by their lots, before and behind one, and on the way to one."""

from math import factorial

from groupdeeds.checks import check_count, check_grouping, check_size, grouping_size, is_integer_from
from groupdeeds.errors import BadNumber
from groupdeeds.groupings import grouping_count, groupings

MOST_PARTED = 60


def lots_counts(many):
    """Return the tuple of the numbers of groupings of so many people with 1, 2, .. groups."""
    check_count(many, 1, MOST_PARTED)
    counts = [1]
    for _ in range(many - 1):
        # One more person joins one of the groups, or is a group alone.
        joined = [(at + 1) * count for at, count in enumerate(counts)] + [0]
        counts = [stay + alone for stay, alone in zip(joined, [0] + counts)]
    return tuple(counts)


def number_of(grouping):
    """Return how many groupings of its size are less than a grouping."""
    check_grouping(grouping)
    return groupings(grouping_size(grouping)).index(grouping)


def grouping_at(size, number):
    """Return the grouping of a size than which so many are less."""
    check_size(size)
    known = groupings(size)
    if not is_integer_from(number, 0, len(known) - 1):
        raise BadNumber(f"not an integer from 0 to {len(known) - 1}")
    return known[number]


def finer_count(grouping):
    """Return the number of groupings that are finer than one, itself too."""
    check_grouping(grouping)
    count = 1
    for lot in grouping:
        count = count * grouping_count(len(lot))
    return count


def coarser_count(grouping):
    """Return the number of groupings that one is finer than, itself too."""
    check_grouping(grouping)
    return grouping_count(len(grouping))


def chain_count(grouping):
    """Return the number of ways from all alone to a grouping by joining two groups again and again."""
    check_grouping(grouping)
    count = factorial(grouping_size(grouping) - len(grouping))
    for lot in grouping:
        # Joinings of unlike lots stand in any order, those within a lot in the order in which they are counted.
        for left in range(2, len(lot) + 1):
            count = count * (left * (left - 1) // 2)
        count = count // factorial(len(lot) - 1)
    return count
