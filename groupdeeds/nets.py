"""Likings and prices together: what is best in the end, and what is best all the time."""

from groupdeeds.checks import check_count, grouping_size, is_numbered_row
from groupdeeds.groupings import all_stepped, groupings, step_numbers, stepped
from groupdeeds.likings import all_worths, check_grouping_and_likings, told_size, worth_of
from groupdeeds.prices import MOST_CHEAP_STEPS, cheaper_ways, check_prices, row_along, step_prices

MOST_STAY = 8


def check_net_arguments(start, likings, prices):
    """Raise an error for values that are not a grouping, and likings and prices of its size."""
    check_grouping_and_likings(start, likings)
    check_prices(prices, grouping_size(start))


def net_ways(size, likings, prices):
    """Return a dict with, for each grouping, the pair (loss, steps) of a best way, whose net is the loss below 0."""
    worths = all_worths(size, likings)
    return cheaper_ways({known: -worths[known] for known in worths}, prices)


def row_net(start, row, likings, prices):
    """Return the worth behind a row of whatever length less the prices of its steps."""
    costs = step_prices(grouping_size(start), prices)
    return worth_of(all_stepped(start, row), likings) - sum([costs[step] for step in row])


def row_total(start, row, likings, prices):
    """Return the sum, over the steps of a row, of the worth behind each less its price."""
    costs = step_prices(grouping_size(start), prices)
    total = 0
    for step in row:
        start = stepped(start, step)
        total = total + worth_of(start, likings) - costs[step]
    return total


def stay_gains(size, likings, prices):
    """Return, for each grouping, the list of the pairs (number behind, worth less price) of all steps, ascending."""
    worths = list(all_worths(size, likings).values())
    costs = list(step_prices(size, prices).values())
    return [[(to, worths[to] - cost) for to, cost in zip(behind, costs)] for behind in step_numbers(size)]


def stay_totals(size, likings, prices, many):
    """Return, for 0, 1, .. steps left, the list of the greatest totals from each grouping, groupings ascending."""
    gains = stay_gains(size, likings, prices)
    totals = [[0] * len(gains)]
    for _ in range(many):
        last = totals[-1]
        totals.append([max([last[to] + gain for to, gain in ways]) for ways in gains])
    return totals


def best_net(start, likings, prices):
    """Return the pair (net, row) of a tuple of steps with the greatest net."""
    check_net_arguments(start, likings, prices)
    size = grouping_size(start)
    ways = net_ways(size, likings, prices)
    return (-ways[start][0], row_along(start, ways, step_prices(size, prices)))


def shows_best_net(start, likings, prices, value):
    """Return whether a value is the pair (net, row) of a tuple of steps with the greatest net."""
    check_net_arguments(start, likings, prices)
    size = grouping_size(start)
    if not is_numbered_row(value, size, MOST_CHEAP_STEPS):
        return False
    most = -net_ways(size, likings, prices)[start][0]
    return value[0] == most == row_net(start, value[1], likings, prices)


def best_stay(start, likings, prices, many):
    """Return the pair (total, row) of a row of just so many steps with the greatest total."""
    check_net_arguments(start, likings, prices)
    check_count(many, 1, MOST_STAY)
    size = grouping_size(start)
    gains = stay_gains(size, likings, prices)
    totals = stay_totals(size, likings, prices, many)
    steps = list(step_prices(size, prices))
    here = groupings(size).index(start)
    most = totals[-1][here]
    row = ()
    for later in reversed(totals[:-1]):
        hoped = [later[to] + gain for to, gain in gains[here]]
        at = hoped.index(max(hoped))
        row = row + (steps[at],)
        here = gains[here][at][0]
    return (most, row)


def shows_best_stay(start, likings, prices, many, value):
    """Return whether a value is the pair (total, row) of a row of just so many steps with the greatest total."""
    check_net_arguments(start, likings, prices)
    check_count(many, 1, MOST_STAY)
    size = grouping_size(start)
    if not is_numbered_row(value, size, many) or len(value[1]) != many:
        return False
    most = stay_totals(size, likings, prices, many)[-1][groupings(size).index(start)]
    return value[0] == most == row_total(start, value[1], likings, prices)


def stay_worths(likings, prices, many):
    """Return, for 0, 1, .. steps left, the tuple of the greatest totals from each grouping, groupings ascending."""
    size = told_size(likings)
    check_prices(prices, size)
    check_count(many, 1, MOST_STAY)
    return tuple([tuple(totals) for totals in stay_totals(size, likings, prices, many)])
