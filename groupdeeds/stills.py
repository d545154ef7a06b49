"""Which groupings a drawing leaves, makes and makes others of."""

from groupdeeds.checks import check_drawing, check_grouping_of, drawing_size
from groupdeeds.drawings import made_of, tie_count
from groupdeeds.groupings import groupings


def stills(drawing):
    """Return the ascending tuple of the groupings that a drawing leaves as they are."""
    check_drawing(drawing)
    return tuple([known for known in groupings(drawing_size(drawing)) if made_of(drawing, known) == known])


def made_ones(drawing):
    """Return the ascending tuple of all groupings that a drawing makes of some grouping."""
    check_drawing(drawing)
    return tuple(sorted({made_of(drawing, known) for known in groupings(drawing_size(drawing))}))


def made_from(drawing, grouping):
    """Return the ascending tuple of all groupings of which a drawing makes a grouping."""
    check_drawing(drawing)
    check_grouping_of(grouping, drawing_size(drawing))
    return tuple([known for known in groupings(drawing_size(drawing)) if made_of(drawing, known) == grouping])


def forgets(drawing):
    """Return whether a drawing makes the same of all groupings."""
    check_drawing(drawing)
    return tie_count(drawing) < 2
