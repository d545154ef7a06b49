"""What is a size, a grouping, a step, a row and a drawing, and the errors for other values."""

from groupdeeds.errors import BadCount, BadDrawing, BadGrouping, BadPerson, BadRow, BadSize, BadStep, TooMany

MOST_PEOPLE = 6
MOST_STEPS = 40


def is_integer(value):
    """Return whether a value is an integer; True and False are none here."""
    return isinstance(value, int) and not isinstance(value, bool)


def is_integer_from(value, least, most):
    """Return whether a value is an integer within bounds."""
    return is_integer(value) and least <= value <= most


def is_ascending(things):
    """Return whether each thing is less than the next one."""
    return all([things[at] < things[at + 1] for at in range(len(things) - 1)])


def are_all(people):
    """Return whether people are those of some size, each once."""
    return is_integer_from(len(people), 1, MOST_PEOPLE) and sorted(people) == list(range(len(people)))


def is_side(value):
    """Return whether a value is an ascending tuple of integers, be it empty."""
    return isinstance(value, tuple) and all([is_integer(person) for person in value]) and is_ascending(value)


def is_lot(value):
    """Return whether a value is a lot of whatever people."""
    return is_side(value) and len(value) > 0 and value[0] >= 0


def is_grouping(value):
    """Return whether a value is a grouping of some size."""
    if not isinstance(value, tuple) or not all([is_lot(lot) for lot in value]):
        return False
    return is_ascending(value) and are_all([person for lot in value for person in lot])


def grouping_size(grouping):
    """Return the size of a grouping."""
    return sum([len(lot) for lot in grouping])


def is_grouping_of(value, size):
    """Return whether a value is a grouping of a size."""
    return is_grouping(value) and grouping_size(value) == size


def is_step(value, size):
    """Return whether a value is a step of a size: one person, or two of whom the first is less."""
    return is_lot(value) and len(value) <= 2 and value[-1] < size


def is_pairs(value, size):
    """Return whether a value is an ascending tuple of pairs of people of a size, the lesser one first in each."""
    if not isinstance(value, tuple) or not all([is_step(pair, size) and len(pair) == 2 for pair in value]):
        return False
    return is_ascending(value)


def is_row(value, size, most=MOST_STEPS):
    """Return whether a value is a tuple of at most so many steps of a size."""
    return isinstance(value, tuple) and len(value) <= most and all([is_step(step, size) for step in value])


def is_numbered_row(value, size, most):
    """Return whether a value is a pair of an integer and a tuple of at most so many steps of a size."""
    if not isinstance(value, tuple) or len(value) != 2:
        return False
    return is_integer(value[0]) and is_row(value[1], size, most)


def is_drawn_pair(value):
    """Return whether a value may be a pair of a drawing."""
    if not isinstance(value, tuple) or len(value) != 2:
        return False
    return is_side(value[0]) and is_side(value[1]) and value != ((), ())


def is_drawing(value):
    """Return whether a value is a drawing of some size."""
    if not isinstance(value, tuple) or not all([is_drawn_pair(pair) for pair in value]):
        return False
    before = [person for pair in value for person in pair[0]]
    behind = [person for pair in value for person in pair[1]]
    return is_ascending(value) and are_all(before) and sorted(behind) == sorted(before)


def drawing_size(drawing):
    """Return the size of a drawing."""
    return sum([len(pair[0]) for pair in drawing])


def is_some(value, most):
    """Return whether a value is a tuple of 1 to so many things."""
    return isinstance(value, tuple) and 1 <= len(value) <= most


def wrong_groupings(things, size):
    """Return the list of the indexes of the things that are no groupings of a size."""
    return [at for at, thing in enumerate(things) if not is_grouping_of(thing, size)]


def check_size(value):
    """Raise an error for a value that is no size."""
    if not is_integer_from(value, 1, MOST_PEOPLE):
        raise BadSize("a size is an integer from 1 to 6")


def check_count(value, least, most):
    """Raise an error for a value that is no integer within bounds."""
    if not is_integer_from(value, least, most):
        raise BadCount(f"not an integer from {least} to {most}")


def check_person(value, size):
    """Raise an error for a value that is no person of a size."""
    if not is_integer_from(value, 0, size - 1):
        raise BadPerson(f"not a person of size {size}")


def check_few(size, most):
    """Raise an error for a size of more people than the most that are taken."""
    if size > most:
        raise TooMany(most)


def check_grouping(value):
    """Raise an error for a value that is no grouping."""
    if not is_grouping(value):
        raise BadGrouping("not a grouping")


def check_grouping_of(value, size):
    """Raise an error for a value that is no grouping of a size."""
    if not is_grouping_of(value, size):
        raise BadGrouping(f"not a grouping of size {size}")


def check_groupings(one, other):
    """Raise an error for values that are not two groupings of one size."""
    check_grouping(one)
    check_grouping_of(other, grouping_size(one))


def check_step(value, size):
    """Raise an error for a value that is no step of a size."""
    if not is_step(value, size):
        raise BadStep(f"not a step of size {size}")


def check_row(value, size):
    """Raise an error for a value that is no row of a size."""
    if not isinstance(value, tuple) or len(value) > MOST_STEPS:
        raise BadRow(None)
    for at, step in enumerate(value):
        if not is_step(step, size):
            raise BadRow(at)


def check_drawing(value):
    """Raise an error for a value that is no drawing."""
    if not is_drawing(value):
        raise BadDrawing("not a drawing")


def check_drawings(one, other):
    """Raise an error for values that are not two drawings of one size."""
    check_drawing(one)
    if not is_drawing(other) or drawing_size(other) != drawing_size(one):
        raise BadDrawing(f"not a drawing of size {drawing_size(one)}")
