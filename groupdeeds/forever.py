"""Steps for ever: the best mean of worth less price, and papers for what cannot be better."""

from groupdeeds.checks import check_few, is_grouping_of, is_row
from groupdeeds.groupings import all_stepped, all_steps, groupings
from groupdeeds.likings import told_size
from groupdeeds.nets import row_total, stay_gains
from groupdeeds.prices import check_prices
from groupdeeds.ratios import is_ratio, ratio_of, ratio_sum

MOST_FOR_EVER = 3


def forever_size(likings, prices):
    """Return the size that likings tell; raise an error for values that are not likings and prices of at most 3."""
    size = told_size(likings)
    check_prices(prices, size)
    check_few(size, MOST_FOR_EVER)
    return size


def greatest_mean(gains):
    """Return the greatest mean of a row that leads back to its start, as a ratio."""
    # A step done again changes nothing and brings the same, so nothing is better than the best step for ever.
    return (max([gain for ways in gains for _, gain in ways]), 1)


def is_mean_paper(mean, numbers, gains):
    """Return whether each number is at least the one behind each step and what the step brings above the mean."""
    for number, ways in zip(numbers, gains):
        for to, gain in ways:
            top, bottom = numbers[to]
            if ratio_sum([number, mean, (-gain, 1), (-top, bottom)])[0] < 0:
                return False
    return True


def best_mean(likings, prices):
    """Return the triple (mean, grouping, row) of a row back to a grouping with the greatest mean."""
    size = forever_size(likings, prices)
    gains = stay_gains(size, likings, prices)
    mean = greatest_mean(gains)
    known = groupings(size)
    steps = all_steps(size)
    best = [(known[to], step) for ways in gains for step, (to, gain) in zip(steps, ways) if (gain, 1) == mean]
    return (mean, best[0][0], (best[0][1],))


def shows_best_mean(likings, prices, value):
    """Return whether a value is the triple (mean, grouping, row) of a row back to it with the greatest mean."""
    size = forever_size(likings, prices)
    if not isinstance(value, tuple) or len(value) != 3:
        return False
    mean, grouping, row = value
    if not is_ratio(mean) or not is_grouping_of(grouping, size) or not is_row(row, size):
        return False
    if row == () or all_stepped(grouping, row) != grouping:
        return False
    reached = ratio_of(row_total(grouping, row, likings, prices), len(row))
    return mean == reached == greatest_mean(stay_gains(size, likings, prices))


def mean_paper(likings, prices):
    """Return the pair (mean, numbers) of the greatest mean and numbers of all groupings that show it."""
    size = forever_size(likings, prices)
    gains = stay_gains(size, likings, prices)
    # No step brings more than the mean, so equal numbers will do.
    return (greatest_mean(gains), ((0, 1),) * len(gains))


def shows_mean_paper(likings, prices, value):
    """Return whether a value is the pair (mean, numbers) of the greatest mean and numbers that show it."""
    size = forever_size(likings, prices)
    if not isinstance(value, tuple) or len(value) != 2:
        return False
    mean, numbers = value
    gains = stay_gains(size, likings, prices)
    if not isinstance(numbers, tuple) or len(numbers) != len(gains):
        return False
    if not is_ratio(mean) or not all([is_ratio(number) for number in numbers]):
        return False
    return mean == greatest_mean(gains) and is_mean_paper(mean, numbers, gains)
