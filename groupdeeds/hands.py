"""Two hands that take steps by turns: the first one wants the worth great, the second one small."""

from groupdeeds.checks import check_count, grouping_size
from groupdeeds.groupings import all_steps, groupings, step_numbers
from groupdeeds.likings import all_worths, check_grouping_and_likings

MOST_TURNS = 6


def worths_behind(size, likings, first, many):
    """Return the list of the worths from each grouping behind the turns from a first one on, counted from 0."""
    behind = step_numbers(size)
    worths = list(all_worths(size, likings).values())
    for turn in reversed(range(first, many)):
        hoped = [[worths[to] for to in numbers] for numbers in behind]
        # The first hand has every other turn.
        worths = [max(ends) for ends in hoped] if turn % 2 == 0 else [min(ends) for ends in hoped]
    return worths


def most_worth(start, likings, many):
    """Return the worth behind so many steps in all, each hand taking its best ones."""
    check_grouping_and_likings(start, likings)
    check_count(many, 0, MOST_TURNS)
    size = grouping_size(start)
    return worths_behind(size, likings, 0, many)[groupings(size).index(start)]


def best_steps(start, likings, many):
    """Return the ascending tuple of the steps that the first hand can take first without having less."""
    check_grouping_and_likings(start, likings)
    check_count(many, 1, MOST_TURNS)
    size = grouping_size(start)
    worths = worths_behind(size, likings, 1, many)
    ends = [worths[to] for to in step_numbers(size)[groupings(size).index(start)]]
    return tuple([step for step, end in zip(all_steps(size), ends) if end == max(ends)])
