"""Steps by chance: what is there behind some of them, in the long run, and when it is there first."""

from math import lcm

from groupdeeds.checks import check_count, check_few, check_grouping, check_groupings, check_person, check_size
from groupdeeds.checks import grouping_size
from groupdeeds.errors import BadWeights
from groupdeeds.groupings import all_steps, groupings, step_numbers
from groupdeeds.ratios import is_ratio, ratio_of, ratio_sum, solved

MOST_BOTTOM = 60
MOST_CHANCE_STEPS = 8
MOST_FOR_LONG_RUN = 4


def is_weight(value):
    """Return whether a value may be the chance of a step."""
    return is_ratio(value) and value[0] > 0 and value[1] <= MOST_BOTTOM


def check_weights(value, size):
    """Raise an error for a value that is no weights of a size."""
    if not isinstance(value, tuple) or len(value) != len(all_steps(size)) or not all([is_weight(one) for one in value]):
        raise BadWeights(f"not weights of size {size}")
    if ratio_sum(value) != (1, 1):
        raise BadWeights("the sum of the weights is not 1")


def check_size_and_weights(size, weights):
    """Raise an error for values that are not a size and weights of it."""
    check_size(size)
    check_weights(weights, size)


def whole_weights(weights):
    """Return the pair (parts, whole): integers for the steps, each of which has the chance part by whole."""
    whole = 1
    for weight in weights:
        whole = lcm(whole, weight[1])
    return ([top * (whole // bottom) for top, bottom in weights], whole)


def chances_behind(table, start, weights, many):
    """Return a dict of what may be there behind so many steps from a start, each with its chance as (top, bottom).

    The table tells what is behind each step.
    """
    parts, whole = whole_weights(weights)
    found = {start: 1}
    bottom = 1
    for _ in range(many):
        later = {}
        for here in found:
            for there, part in zip(table[here], parts):
                later[there] = later.get(there, 0) + found[here] * part
        found = later
        bottom = bottom * whole
    return {here: (found[here], bottom) for here in found}


def mean_steps(table, start, weights):
    """Return the mean number of steps until what is there is nothing that the table tells of."""
    if start not in table:
        return (0, 1)
    parts, whole = whole_weights(weights)
    places = {here: at for at, here in enumerate(table)}
    rows = []
    # The mean from here is 1 and the mean from what comes next, times the whole.
    for here in table:
        row = [0] * len(table) + [whole]
        row[places[here]] = whole
        for there, part in zip(table[here], parts):
            if there in places:
                row[places[there]] = row[places[there]] - part
        rows.append(row)
    return solved(rows)[places[start]]


def long_run(size, weights):
    """Return the list of the pairs (grouping, chance) of all groupings in the long run, ascending."""
    parts, whole = whole_weights(weights)
    behind = step_numbers(size)
    # What comes to each grouping is what was there; one of these equations follows from the others.
    rows = [[0] * (len(behind) + 1) for _ in behind]
    for here, numbers in enumerate(behind):
        rows[here][here] = rows[here][here] - whole
        for there, part in zip(numbers, parts):
            rows[there][here] = rows[there][here] + part
    return list(zip(groupings(size), solved(rows[1:] + [[1] * (len(behind) + 1)])))


def after_chances(grouping, weights, many):
    """Return the pairs (grouping, chance) of all groupings that may be there behind so many steps, ascending."""
    check_grouping(grouping)
    check_weights(weights, grouping_size(grouping))
    check_count(many, 0, MOST_CHANCE_STEPS)
    known = groupings(grouping_size(grouping))
    found = chances_behind(step_numbers(grouping_size(grouping)), known.index(grouping), weights, many)
    return tuple([(known[at], ratio_of(found[at][0], found[at][1])) for at in sorted(found)])


def long_chances(size, weights):
    """Return the tuple of the chances of all groupings in the long run, groupings ascending."""
    check_size_and_weights(size, weights)
    check_few(size, MOST_FOR_LONG_RUN)
    return tuple([chance for _, chance in long_run(size, weights)])


def together_chance(size, weights, one, other):
    """Return the chance that two people are in one group in the long run."""
    check_size_and_weights(size, weights)
    check_person(one, size)
    check_person(other, size)
    check_few(size, MOST_FOR_LONG_RUN)
    found = long_run(size, weights)
    return ratio_sum([chance for known, chance in found if any([one in lot and other in lot for lot in known])])


def mean_lots(size, weights):
    """Return the mean number of groups in the long run."""
    check_size_and_weights(size, weights)
    check_few(size, MOST_FOR_LONG_RUN)
    return ratio_sum([(len(known) * chance[0], chance[1]) for known, chance in long_run(size, weights)])


def mean_first(start, goal, weights):
    """Return the mean number of steps until the goal is there for the first time."""
    check_groupings(start, goal)
    size = grouping_size(start)
    check_weights(weights, size)
    check_few(size, MOST_FOR_LONG_RUN)
    known = groupings(size)
    table = {at: numbers for at, numbers in enumerate(step_numbers(size)) if known[at] != goal}
    return mean_steps(table, known.index(start), weights)
