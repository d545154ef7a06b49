"""Drawings: what hangs together before and behind rows of steps."""

from groupdeeds.checks import check_drawing, check_drawings, check_grouping_of, check_row, check_size, check_step
from groupdeeds.checks import drawing_size
from groupdeeds.groupings import united


def ordered(pairs):
    """Return the drawing of pairs of lists of people in any order; those of nobody are left out."""
    return tuple(sorted([(tuple(sorted(pair[0])), tuple(sorted(pair[1]))) for pair in pairs if pair[0] or pair[1]]))


def resting(size):
    """Return the idle drawing of a good size."""
    return tuple([((person,), (person,)) for person in range(size)])


def drawn_step(size, step):
    """Return the drawing of a good step of a good size."""
    kept = [pair for pair in resting(size) if pair[0][0] not in step]
    if len(step) == 1:
        return ordered(kept + [(step, ()), ((), step)])
    return ordered(kept + [(step, step)])


def composed(one, other):
    """Return the drawing of the first and then the second, which fit; the points between are left out."""
    many = len(one)
    homes = {person: at for at, pair in enumerate(one) for person in pair[1]}
    links = [(homes[person], many + at) for at, pair in enumerate(other) for person in pair[0]]
    marks = united(many + len(other), links)
    pairs = {mark: ([], []) for mark in marks}
    for at, pair in enumerate(one):
        pairs[marks[at]][0].extend(pair[0])
    for at, pair in enumerate(other):
        pairs[marks[many + at]][1].extend(pair[1])
    return ordered(list(pairs.values()))


def made_of(drawing, grouping):
    """Return the grouping that a drawing makes of another one; both are good and of one size."""
    # A grouping is like a drawing with nothing before.
    return tuple([pair[1] for pair in composed([((), lot) for lot in grouping], drawing)])


def row_drawing(size, row):
    """Return the drawing of a good row of a good size."""
    made = resting(size)
    for step in row:
        made = composed(made, drawn_step(size, step))
    return made


def turned(drawing):
    """Return a good drawing with all points before and behind exchanged."""
    return ordered([(pair[1], pair[0]) for pair in drawing])


def tie_count(drawing):
    """Return the number of ties of a good drawing."""
    return len([pair for pair in drawing if pair[0] and pair[1]])


def idle(size):
    """Return the drawing in which nothing is done."""
    check_size(size)
    return resting(size)


def ties(drawing):
    """Return the number of ties of a drawing."""
    check_drawing(drawing)
    return tie_count(drawing)


def drawn(drawing, grouping):
    """Return the grouping that a drawing makes of another one."""
    check_drawing(drawing)
    check_grouping_of(grouping, drawing_size(drawing))
    return made_of(drawing, grouping)


def step_drawing(size, step):
    """Return the drawing of a step."""
    check_size(size)
    check_step(step, size)
    return drawn_step(size, step)


def after(one, other):
    """Return the drawing of the first and then the second."""
    check_drawings(one, other)
    return composed(one, other)


def drawing(size, row):
    """Return the drawing of a row."""
    check_size(size)
    check_row(row, size)
    return row_drawing(size, row)


def mirrored(drawing):
    """Return the drawing with all points before and behind exchanged."""
    check_drawing(drawing)
    return turned(drawing)


def is_still(drawing):
    """Return whether a drawing twice is the drawing once."""
    check_drawing(drawing)
    return composed(drawing, drawing) == drawing


def drawing_rest(drawing):
    """Return the least pair (before, length): so many times and so many more of a drawing are equal."""
    check_drawing(drawing)
    seen = {}
    made = resting(drawing_size(drawing))
    while made not in seen:
        seen[made] = len(seen)
        made = composed(made, drawing)
    return (seen[made], len(seen) - seen[made])
