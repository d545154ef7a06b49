"""Which groupings are finer than others, and what people are together in two of them."""

from groupdeeds.checks import check_grouping, check_groupings, grouping_size
from groupdeeds.groupings import groupings, lots_of, marks_of, united


def common(one, other):
    """Return the grouping in which people are together if they are in both; both are good."""
    return lots_of(list(zip(marks_of(one), marks_of(other))))


def most_shared(one, other):
    """Return, for each lot of the one, the most of its people in one lot of the other; both are good."""
    return tuple([max([len([person for person in lot if person in wide]) for wide in other]) for lot in one])


def is_finer(one, other):
    """Return whether each lot of the one is within a lot of the other."""
    check_groupings(one, other)
    return common(one, other) == one


def met(one, other):
    """Return the grouping in which two people are together if they are in both."""
    check_groupings(one, other)
    return common(one, other)


def put_together(one, other):
    """Return the finest grouping that both are finer than."""
    check_groupings(one, other)
    links = [(lot[0], person) for lot in one + other for person in lot]
    return lots_of(united(grouping_size(one), links))


def finer_ones(grouping):
    """Return the ascending tuple of all groupings that are finer than one, itself too."""
    check_grouping(grouping)
    return tuple([known for known in groupings(grouping_size(grouping)) if common(known, grouping) == known])


def coarser_ones(grouping):
    """Return the ascending tuple of all groupings that one is finer than, itself too."""
    check_grouping(grouping)
    return tuple([known for known in groupings(grouping_size(grouping)) if common(grouping, known) == grouping])


def shares(one, other):
    """Return, for each lot of the one, the greatest number of its people in one lot of the other."""
    check_groupings(one, other)
    return most_shared(one, other)
