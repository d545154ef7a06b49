"""New names for people, and what is alike but for the names."""

from itertools import permutations

from groupdeeds.checks import check_drawing, check_drawings, check_few, check_grouping, check_groupings, drawing_size
from groupdeeds.checks import grouping_size, is_integer
from groupdeeds.drawings import ordered
from groupdeeds.errors import BadOrder

MOST_FOR_ALIKE = 5


def check_order(value, size):
    """Raise an error for a value that is no new names of a size."""
    if not isinstance(value, tuple) or not all([is_integer(person) for person in value]):
        raise BadOrder("new names are a tuple of integers")
    if sorted(value) != list(range(size)):
        raise BadOrder(f"not new names of size {size}")


def with_names(drawing, order):
    """Return a good drawing with new names before and behind."""
    return ordered([([order[one] for one in pair[0]], [order[one] for one in pair[1]]) for pair in drawing])


def lot_sizes(grouping):
    """Return the list of the sizes of the groups of a good grouping, the greatest first."""
    return sorted([len(lot) for lot in grouping], reverse=True)


def renamed(grouping, order):
    """Return the grouping of the new names."""
    check_grouping(grouping)
    check_order(order, grouping_size(grouping))
    return tuple(sorted([tuple(sorted([order[person] for person in lot])) for lot in grouping]))


def renamed_drawing(drawing, order):
    """Return the drawing with new names before and behind."""
    check_drawing(drawing)
    check_order(order, drawing_size(drawing))
    return with_names(drawing, order)


def shape(grouping):
    """Return the tuple of the sizes of the groups, the greatest first."""
    check_grouping(grouping)
    return tuple(lot_sizes(grouping))


def alike(one, other):
    """Return whether one grouping can be renamed to be the other one."""
    check_groupings(one, other)
    return lot_sizes(one) == lot_sizes(other)


def alike_drawings(one, other):
    """Return whether one drawing can be renamed to be the other one."""
    check_drawings(one, other)
    check_few(drawing_size(one), MOST_FOR_ALIKE)
    return any([with_names(one, order) == other for order in permutations(range(drawing_size(one)))])
