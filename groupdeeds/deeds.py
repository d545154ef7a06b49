"""What drawings do: which of them make the same of every grouping."""

from groupdeeds.checks import check_drawing, check_drawings, check_size, drawing_size, is_grouping_of
from groupdeeds.coming import tied_count
from groupdeeds.drawings import made_of, ordered, tie_count
from groupdeeds.errors import NoTwo
from groupdeeds.groupings import groupings


def with_ties_crossed(drawing):
    """Return a good drawing of two ties with the lots behind of its ties exchanged."""
    one, other = [pair for pair in drawing if pair[0] and pair[1]]
    rest = [pair for pair in drawing if pair not in (one, other)]
    return ordered(rest + [(one[0], other[1]), (other[0], one[1])])


def plain_of(drawing):
    """Return the drawing that stands for all that do the same as a good one."""
    many = tie_count(drawing)
    if many < 2:
        alone = [((person,), ()) for person in range(drawing_size(drawing))]
        return ordered(alone + [((), pair[1]) for pair in drawing])
    if many == 2:
        return min(drawing, with_ties_crossed(drawing))
    return drawing


def deeds_of_ties(size, many):
    """Return the number of deeds of rows whose plain drawings have so many ties."""
    # Drawings of one tie do the same as those without, and of those with all ties only the idle one comes.
    if many == 0:
        return len(groupings(size))
    if many == 1:
        return 0
    if many == size:
        return 1
    return tied_count(size, many) // 2 if many == 2 else tied_count(size, many)


def same_deed(one, other):
    """Return whether two drawings make the same of every grouping."""
    check_drawings(one, other)
    return plain_of(one) == plain_of(other)


def telling(one, other):
    """Return a grouping of which two drawings make unlike ones, None if there is none."""
    check_drawings(one, other)
    for grouping in groupings(drawing_size(one)):
        if made_of(one, grouping) != made_of(other, grouping):
            return grouping
    return None


def shows_telling(one, other, value):
    """Return whether a value is a grouping of which two drawings make unlike ones, or rightly None."""
    check_drawings(one, other)
    if value is None:
        return plain_of(one) == plain_of(other)
    return is_grouping_of(value, drawing_size(one)) and made_of(one, value) != made_of(other, value)


def plain_drawing(drawing):
    """Return the one drawing that stands for all that do the same."""
    check_drawing(drawing)
    return plain_of(drawing)


def crossed(drawing):
    """Return a drawing of two ties with the lots behind of its ties exchanged."""
    check_drawing(drawing)
    if tie_count(drawing) != 2:
        raise NoTwo("the drawing has not two ties")
    return with_ties_crossed(drawing)


def deed_count(size):
    """Return the number of unlike deeds of rows."""
    check_size(size)
    return sum([deeds_of_ties(size, many) for many in range(size + 1)])


def deeds_by_ties(size):
    """Return the numbers of deeds of rows whose plain drawings have 0, 1, 2, .. ties."""
    check_size(size)
    return tuple([deeds_of_ties(size, many) for many in range(size + 1)])
