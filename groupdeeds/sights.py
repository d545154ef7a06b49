"""What was seen of a row: which deeds fit it, and what they tell."""

from groupdeeds.checks import check_drawing, check_few, check_grouping_of, check_size, drawing_size, is_grouping_of
from groupdeeds.drawings import made_of
from groupdeeds.errors import BadSights
from groupdeeds.leading import MOST_FOR_ALL_DEEDS, deeds

MOST_SIGHTS = 8


def is_sight(value, size):
    """Return whether a value is a pair of groupings of a size."""
    if not isinstance(value, tuple) or len(value) != 2:
        return False
    return is_grouping_of(value[0], size) and is_grouping_of(value[1], size)


def check_sights(value, size):
    """Raise an error for a value that is no sights of a size."""
    if not isinstance(value, tuple) or not 1 <= len(value) <= MOST_SIGHTS:
        raise BadSights(None)
    for at, sight in enumerate(value):
        if not is_sight(sight, size):
            raise BadSights(at)


def is_fitting(drawing, sights):
    """Return whether a good drawing makes the second of the first of each sight."""
    return all([made_of(drawing, before) == behind for before, behind in sights])


def fitting_deeds(size, sights):
    """Return the list of the plain drawings, ascending, of all deeds of rows that fit."""
    return [deed for deed in deeds(size) if is_fitting(deed, sights)]


def fitting(size, sights):
    """Return the ascending tuple of the plain drawings of all deeds of rows that fit."""
    check_size(size)
    check_sights(sights, size)
    check_few(size, MOST_FOR_ALL_DEEDS)
    return tuple(fitting_deeds(size, sights))


def fits(drawing, sights):
    """Return whether a drawing makes the second of the first of each sight."""
    check_drawing(drawing)
    check_sights(sights, drawing_size(drawing))
    return is_fitting(drawing, sights)


def next_seen(size, sights, grouping):
    """Return the ascending tuple of all groupings that the deeds that fit make of a grouping."""
    check_size(size)
    check_sights(sights, size)
    check_grouping_of(grouping, size)
    check_few(size, MOST_FOR_ALL_DEEDS)
    return tuple(sorted({made_of(deed, grouping) for deed in fitting_deeds(size, sights)}))


def first_against(size, sights):
    """Return the least number of sights, from the first one on, that no deed fits, None if some deed fits all."""
    check_size(size)
    check_sights(sights, size)
    check_few(size, MOST_FOR_ALL_DEEDS)
    left = deeds(size)
    for at, sight in enumerate(sights):
        left = [deed for deed in left if is_fitting(deed, (sight,))]
        if not left:
            return at + 1
    return None
