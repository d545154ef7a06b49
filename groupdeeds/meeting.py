"""The same steps by chance for two groupings, and for all: when they make the same of them."""

from groupdeeds.chances import chances_behind, check_size_and_weights, check_weights, mean_steps
from groupdeeds.checks import check_count, check_few, check_groupings, grouping_size
from groupdeeds.drawings import composed, drawn_step, resting, tie_count
from groupdeeds.groupings import all_steps, groupings, step_numbers
from groupdeeds.ratios import ratio_sum

MOST_APART_STEPS = 12
MOST_TIE_STEPS = 8
MOST_FOR_APART = 4
MOST_FOR_MEETING = 3


def pair_table(size):
    """Return a dict with, for each pair of numbers of groupings, the list of the pairs behind each step.

    The lesser number stands first in all pairs.
    """
    behind = step_numbers(size)
    table = {}
    for other in range(len(behind)):
        for one in range(other + 1):
            table[(one, other)] = [(min(pair), max(pair)) for pair in zip(behind[one], behind[other])]
    return table


def place_of(one, other):
    """Return the pair of the numbers of two groupings, the lesser one first."""
    known = groupings(grouping_size(one))
    return (known.index(min(one, other)), known.index(max(one, other)))


def drawing_table(size, many):
    """Return a dict with, for each drawing of less than so many steps, the list of the drawings behind each step."""
    steps = [drawn_step(size, step) for step in all_steps(size)]
    table = {}
    fresh = [resting(size)]
    for _ in range(many):
        for here in fresh:
            table[here] = [composed(here, step) for step in steps]
        fresh = sorted({there for made in fresh for there in table[made] if there not in table})
    return table


def chances_of_ties(size, weights, many):
    """Return the list of the chances that the drawing of so many steps has 0, 1, 2, .. ties, up to the size."""
    found = chances_behind(drawing_table(size, many), resting(size), weights, many)
    return [ratio_sum([found[made] for made in found if tie_count(made) == ties]) for ties in range(size + 1)]


def check_tie_arguments(size, weights, many):
    """Raise an error for values that are not a size of at most 3, weights of it and a number of steps."""
    check_size_and_weights(size, weights)
    check_count(many, 0, MOST_TIE_STEPS)
    check_few(size, MOST_FOR_MEETING)


def apart_chance(one, other, weights, many):
    """Return the chance that two groupings are still unlike behind so many steps."""
    check_groupings(one, other)
    size = grouping_size(one)
    check_weights(weights, size)
    check_count(many, 0, MOST_APART_STEPS)
    check_few(size, MOST_FOR_APART)
    found = chances_behind(pair_table(size), place_of(one, other), weights, many)
    return ratio_sum([found[pair] for pair in found if pair[0] != pair[1]])


def mean_meeting(one, other, weights):
    """Return the mean number of steps until two groupings are the same."""
    check_groupings(one, other)
    size = grouping_size(one)
    check_weights(weights, size)
    check_few(size, MOST_FOR_MEETING)
    table = pair_table(size)
    unlike = {pair: table[pair] for pair in table if pair[0] != pair[1]}
    return mean_steps(unlike, place_of(one, other), weights)


def tie_chances(size, weights, many):
    """Return the tuple of the chances that the drawing of so many steps has 0, 1, 2, .. ties, up to the size."""
    check_tie_arguments(size, weights, many)
    return tuple(chances_of_ties(size, weights, many))


def forgotten_chance(size, weights, many):
    """Return the chance that so many steps make the same of all groupings."""
    check_tie_arguments(size, weights, many)
    # A drawing forgets exactly if it has fewer than two ties.
    return ratio_sum(chances_of_ties(size, weights, many)[:2])
