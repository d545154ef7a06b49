"""What rows lead to: all deeds, drawings behind drawings, and shortest rows of deeds."""

from groupdeeds.checks import check_drawing, check_drawings, check_few, check_size, drawing_size, is_row
from groupdeeds.coming import check_coming, is_coming, row_to
from groupdeeds.deeds import plain_of
from groupdeeds.drawings import composed, made_of, ordered, row_drawing, tie_count
from groupdeeds.groupings import all_steps, groupings, step_numbers

MOST_FOR_ALL_DEEDS = 3
MOST_FOR_SHORTEST = 4


def all_drawings(size):
    """Return all drawings of a size of at most 3: the groupings of the points before and behind."""
    found = []
    for lots in groupings(2 * size):
        sides = [([at for at in lot if at < size], [at - size for at in lot if at >= size]) for lot in lots]
        found.append(ordered(sides))
    return found


def cut_lots(drawing):
    """Return the lots before of a good drawing without a tie."""
    return [pair[0] for pair in drawing if not pair[1]]


def tied_lots(drawing):
    """Return the lots before of the ties of a good drawing."""
    return [pair[0] for pair in drawing if pair[0] and pair[1]]


def is_made_of(lot, parts):
    """Return whether a lot is made of some whole parts, of which no two have people in common."""
    inside = [part for part in parts if all([person in lot for person in part])]
    return sum([len(part) for part in inside]) == len(lot)


def is_leading(one, other):
    """Return whether some row behind the first drawing has the second; both are good and of one size."""
    if one == other:
        return True
    if tie_count(other) >= drawing_size(other):
        return False
    cut = cut_lots(one)
    ends = cut_lots(other)
    rest = [lot for lot in ends + tied_lots(other) if lot not in cut]
    return all([lot in ends for lot in cut]) and all([is_made_of(lot, tied_lots(one)) for lot in rest])


def bridge(one, other):
    """Return a drawing that makes the second of the first, to which it leads."""
    pairs = [(pair[1], ()) for pair in one if not pair[0]]
    for before, behind in other:
        between = [person for pair in one if pair[0] and pair[0][0] in before for person in pair[1]]
        pairs.append((between, behind))
    return ordered(pairs)


def numbers_made(drawing):
    """Return, for each grouping, the number of the grouping that a good drawing makes of it."""
    known = groupings(drawing_size(drawing))
    numbers = {grouping: at for at, grouping in enumerate(known)}
    return tuple([numbers[made_of(drawing, grouping)] for grouping in known])


def shortest_row(drawing):
    """Return the smallest of the shortest rows that do the same as a drawing that comes."""
    behind = step_numbers(drawing_size(drawing))
    steps = all_steps(drawing_size(drawing))
    goal = numbers_made(drawing)
    fresh = [tuple(range(len(behind)))]
    rows = {fresh[0]: ()}
    # Rows are met ascending within each length, so the first one to a deed is the smallest.
    while goal not in rows:
        later = []
        for deed in fresh:
            for at, step in enumerate(steps):
                made = tuple([behind[number][at] for number in deed])
                if made not in rows:
                    rows[made] = rows[deed] + (step,)
                    later.append(made)
        fresh = later
    return rows[goal]


def check_short(drawing):
    """Raise an error for a value that is no drawing of at most 4 people that comes."""
    check_drawing(drawing)
    check_coming(drawing)
    check_few(drawing_size(drawing), MOST_FOR_SHORTEST)


def deeds(size):
    """Return the ascending tuple of the plain drawings of all deeds of rows."""
    check_size(size)
    check_few(size, MOST_FOR_ALL_DEEDS)
    return tuple(sorted({plain_of(made) for made in all_drawings(size) if is_coming(made)}))


def goes_on(one, other):
    """Return whether some row behind the first drawing has the second."""
    check_drawings(one, other)
    return is_leading(one, other)


def lead_row(one, other):
    """Return a row that behind the first drawing has the second, None if there is none."""
    check_drawings(one, other)
    if one == other:
        return ()
    return row_to(bridge(one, other)) if is_leading(one, other) else None


def shows_lead_row(one, other, value):
    """Return whether a value is a row that behind the first drawing has the second, or rightly None."""
    check_drawings(one, other)
    if value is None:
        return not is_leading(one, other)
    size = drawing_size(one)
    return is_row(value, size) and composed(one, row_drawing(size, value)) == other


def deed_length(drawing):
    """Return the least number of steps of a row that does the same as a drawing."""
    check_short(drawing)
    return len(shortest_row(drawing))


def shortest_deed(drawing):
    """Return the smallest of the shortest rows that do the same as a drawing."""
    check_short(drawing)
    return shortest_row(drawing)
