"""The parts of drawings, and which drawings are the same before or behind."""

from groupdeeds.checks import check_drawing, check_drawings, check_groupings, is_ascending, is_integer_from
from groupdeeds.drawings import composed, ordered, turned
from groupdeeds.errors import BadTies


def lots_on(drawing, side):
    """Return the grouping of the points of a good drawing on a side, 0 or 1, by who hangs together."""
    return tuple(sorted([pair[side] for pair in drawing if pair[side]]))


def is_index_pair(value, firsts, seconds):
    """Return whether a value is a pair of an index of so many lots and one of so many others."""
    if not isinstance(value, tuple) or len(value) != 2:
        return False
    return is_integer_from(value[0], 0, firsts - 1) and is_integer_from(value[1], 0, seconds - 1)


def is_once_each(things):
    """Return whether no thing stands twice in a list."""
    return all([things.count(thing) == 1 for thing in things])


def are_matched(value, firsts, seconds):
    """Return whether a value is an ascending tuple of pairs of indexes of so many lots and others, none twice."""
    if not isinstance(value, tuple) or not all([is_index_pair(pair, firsts, seconds) for pair in value]):
        return False
    if not is_ascending(value):
        return False
    return is_once_each([pair[0] for pair in value]) and is_once_each([pair[1] for pair in value])


def check_ties(value, before, behind):
    """Raise an error for a value that is no ascending tuple of pairs of indexes of lots, none twice on a side."""
    if not are_matched(value, len(before), len(behind)):
        raise BadTies("not an ascending tuple of pairs of indexes, none twice on a side")


def lots_by_tie(drawing, side):
    """Return the list of the pairs (lot, whether it is tied) of a good drawing on a side, 0 or 1, ascending."""
    return sorted([(pair[side], pair[1 - side] != ()) for pair in drawing if pair[side]])


def parts(drawing):
    """Return the triple (lots before, lots behind, ties) of a drawing."""
    check_drawing(drawing)
    before, behind = lots_on(drawing, 0), lots_on(drawing, 1)
    tied = [(before.index(pair[0]), behind.index(pair[1])) for pair in drawing if pair[0] and pair[1]]
    return (before, behind, tuple(sorted(tied)))


def from_parts(before, behind, pairs):
    """Return the drawing with lots before and behind that pairs of indexes tie."""
    check_groupings(before, behind)
    check_ties(pairs, before, behind)
    firsts, seconds = [pair[0] for pair in pairs], [pair[1] for pair in pairs]
    found = [(before[first], behind[second]) for first, second in pairs]
    found.extend([(lot, ()) for at, lot in enumerate(before) if at not in firsts])
    found.extend([((), lot) for at, lot in enumerate(behind) if at not in seconds])
    return ordered(found)


def kept_part(drawing):
    """Return the drawing of a drawing and its mirrored one behind it."""
    check_drawing(drawing)
    return composed(drawing, turned(drawing))


def same_before(one, other):
    """Return whether some drawing behind the first makes the second, and some behind the second the first."""
    check_drawings(one, other)
    return lots_by_tie(one, 0) == lots_by_tie(other, 0)


def same_behind(one, other):
    """Return whether some drawing ahead of the first makes the second, and some ahead of the second the first."""
    check_drawings(one, other)
    return lots_by_tie(one, 1) == lots_by_tie(other, 1)
