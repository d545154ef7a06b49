"""Pairs told to be together or apart, and the groupings that fit them."""

from itertools import combinations

from groupdeeds.checks import check_grouping, check_size, grouping_size, is_pairs
from groupdeeds.errors import BadTold
from groupdeeds.groupings import groupings, marks_of
from groupdeeds.moving import steps_between


def check_told(value, size):
    """Raise an error for a value that is no told pairs of a size."""
    if not isinstance(value, tuple) or len(value) != 2 or not all([isinstance(side, tuple) for side in value]):
        raise BadTold(None)
    for at, side in enumerate(value):
        if not is_pairs(side, size):
            raise BadTold(at)


def check_size_and_told(size, told):
    """Raise an error for values that are not a size and told pairs of it."""
    check_size(size)
    check_told(told, size)


def are_together(pair, grouping):
    """Return whether two people are in one group of a good grouping."""
    marks = marks_of(grouping)
    return marks[pair[0]] == marks[pair[1]]


def is_told(grouping, told):
    """Return whether all of the first pairs are together in a grouping, and all of the second apart."""
    together, apart = told
    if not all([are_together(pair, grouping) for pair in together]):
        return False
    return not any([are_together(pair, grouping) for pair in apart])


def fitting_ones(size, told):
    """Return the list of the groupings, ascending, that fit told pairs; both are good."""
    return [known for known in groupings(size) if is_told(known, told)]


def fitting_groupings(size, told):
    """Return the ascending tuple of the groupings that fit told pairs."""
    check_size_and_told(size, told)
    return tuple(fitting_ones(size, told))


def fitting_count(size, told):
    """Return the number of the groupings that fit told pairs."""
    check_size_and_told(size, told)
    return len(fitting_ones(size, told))


def sure_pairs(size, told):
    """Return the told pairs that hold in all groupings that fit, None if there is no such grouping."""
    check_size_and_told(size, told)
    found = fitting_ones(size, told)
    if not found:
        return None
    held = {pair: [are_together(pair, known) for known in found] for pair in combinations(range(size), 2)}
    together = tuple([pair for pair in held if all(held[pair])])
    return (together, tuple([pair for pair in held if not any(held[pair])]))


def least_lots(size, told):
    """Return the least number of groups of a grouping that fits told pairs, None if there is none."""
    check_size_and_told(size, told)
    return min([len(known) for known in fitting_ones(size, told)], default=None)


def nearest_fitting(grouping, told):
    """Return the smallest of the groupings that fit at the least distance from one, None if there is none."""
    check_grouping(grouping)
    check_told(told, grouping_size(grouping))
    fitting = fitting_ones(grouping_size(grouping), told)
    nearest = min([(steps_between(grouping, known), known) for known in fitting], default=None)
    return None if nearest is None else nearest[1]
