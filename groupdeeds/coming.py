"""Which drawings come of rows, and of which rows."""

from math import comb, factorial

from groupdeeds.checks import check_count, check_drawing, check_size, drawing_size, is_row
from groupdeeds.drawings import resting, row_drawing, tie_count
from groupdeeds.errors import NoRow
from groupdeeds.groupings import groupings


def is_coming(drawing):
    """Return whether some row has a good drawing."""
    size = drawing_size(drawing)
    return tie_count(drawing) < size or drawing == resting(size)


def check_coming(drawing):
    """Raise an error for a good drawing that no row has."""
    if not is_coming(drawing):
        raise NoRow("no row has the drawing")


def joinings(lot):
    """Return the steps that join people who are alone to be a lot."""
    return [(lot[0], person) for person in lot[1:]]


def gathering(drawing):
    """Return the steps that make the lots before: each tie is left to its first person, all others are alone."""
    row = []
    for before, behind in drawing:
        leavers = before[1:] if behind else before
        row = row + joinings(before) + [(person,) for person in leavers]
    return row


def next_move(goals, size):
    """Return a pair (place, vacant place) by which what stands in places comes nearer to its goals, or None."""
    wrong = [place for place in range(size) if goals.get(place, place) != place]
    if not wrong:
        return None
    straight = [place for place in wrong if goals[place] not in goals]
    if straight:
        return (straight[0], goals[straight[0]])
    # Only rings are left: one of their people makes way.
    return (wrong[0], [place for place in range(size) if place not in goals][0])


def shifting(drawing):
    """Return the steps that bring each tie from its first person before to its first one behind."""
    goals = {before[0]: behind[0] for before, behind in drawing if before and behind}
    size = drawing_size(drawing)
    row = []
    move = next_move(goals, size)
    while move:
        place, vacant = move
        row = row + [(min(place, vacant), max(place, vacant)), (place,)]
        goals[vacant] = goals[place]
        del goals[place]
        move = next_move(goals, size)
    return row


def spreading(drawing):
    """Return the steps that make the lots behind."""
    return [step for pair in drawing for step in joinings(pair[1])]


def row_to(drawing):
    """Return a row with a drawing that comes."""
    if drawing == resting(drawing_size(drawing)):
        return ()
    return tuple(gathering(drawing) + shifting(drawing) + spreading(drawing))


def tied_count(size, many):
    """Return the number of drawings of a good size with so many ties."""
    # Lots are tied on either side, and those of the two sides in any order.
    sides = sum([comb(len(grouping), many) for grouping in groupings(size)])
    return sides * sides * factorial(many)


def comes(drawing):
    """Return whether some row has a drawing."""
    check_drawing(drawing)
    return is_coming(drawing)


def drawing_row(drawing):
    """Return a row with a drawing."""
    check_drawing(drawing)
    check_coming(drawing)
    return row_to(drawing)


def shows_drawing_row(drawing, value):
    """Return whether a value is a row with a drawing."""
    check_drawing(drawing)
    check_coming(drawing)
    size = drawing_size(drawing)
    return is_row(value, size) and row_drawing(size, value) == drawing


def drawing_count(size, many):
    """Return the number of drawings with so many ties."""
    check_size(size)
    check_count(many, 0, size)
    return tied_count(size, many)


def come_count(size):
    """Return the number of all drawings that come."""
    check_size(size)
    return sum([tied_count(size, many) for many in range(size)]) + 1
