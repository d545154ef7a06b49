"""Steps with prices: cheapest rows, and papers for what cannot be cheaper."""

from groupdeeds.checks import check_grouping, check_groupings, grouping_size, is_integer, is_integer_from
from groupdeeds.checks import is_numbered_row
from groupdeeds.errors import BadPrices
from groupdeeds.groupings import all_stepped, all_steps, groupings, step_numbers, stepped

MOST_PRICE = 1000
MOST_CHEAP_STEPS = 300


def is_price_list(value, many):
    """Return whether a value is a tuple of so many prices."""
    if not isinstance(value, tuple) or len(value) != many:
        return False
    return all([is_integer_from(price, 0, MOST_PRICE) for price in value])


def check_prices(value, size):
    """Raise an error for a value that is no prices of a size."""
    if not isinstance(value, tuple) or len(value) != 2:
        raise BadPrices("prices are a pair")
    if not is_price_list(value[0], size) or not is_price_list(value[1], size * (size - 1) // 2):
        raise BadPrices(f"not prices of size {size}")


def step_prices(size, prices):
    """Return a dict with the price of each step, steps ascending."""
    pairs = [step for step in all_steps(size) if len(step) == 2]
    found = {pair: price for pair, price in zip(pairs, prices[1])}
    for person, price in enumerate(prices[0]):
        found[(person,)] = price
    return {step: found[step] for step in all_steps(size)}


def cheaper_ways(ends, prices):
    """Return a dict with, for each grouping, the least pair (price, steps) of a way to whatever end.

    The ends are a dict with, for each grouping, ascending, the price of being there at last.
    """
    known = list(ends)
    behind = step_numbers(grouping_size(known[0]))
    costs = list(step_prices(grouping_size(known[0]), prices).values())
    ways = [(price, 0) for price in ends.values()]
    better = True
    while better:
        better = False
        for at in range(len(known)):
            way = min([(ways[to][0] + cost, ways[to][1] + 1) for to, cost in zip(behind[at], costs)])
            if way < ways[at]:
                ways[at] = way
                better = True
    return {grouping: ways[at] for at, grouping in enumerate(known)}


def least_ways(goal, prices):
    """Return a dict with, for each grouping, the least price of a way to the goal and its fewest steps."""
    known = groupings(grouping_size(goal))
    # No way without detours is as dear as this.
    dear = MOST_PRICE * len(known)
    return cheaper_ways({grouping: 0 if grouping == goal else dear for grouping in known}, prices)


def row_along(start, least, costs):
    """Return the row of steps from a start that the least pairs (price, steps) of all groupings tell."""
    row = ()
    here = start
    while least[here][1] > 0:
        price, many = least[here]
        fitting = [step for step in costs if least[stepped(here, step)] == (price - costs[step], many - 1)]
        row = row + (fitting[0],)
        here = stepped(here, fitting[0])
    return row


def is_paper(numbers, costs):
    """Return whether no step's price is less than the number of the grouping before it less that behind it."""
    for grouping in numbers:
        for step in costs:
            if costs[step] < numbers[grouping] - numbers[stepped(grouping, step)]:
                return False
    return True


def cheap_row(start, goal, prices):
    """Return the pair (price, row) of a cheapest tuple of steps that makes the goal of the start."""
    check_groupings(start, goal)
    check_prices(prices, grouping_size(start))
    least = least_ways(goal, prices)
    return (least[start][0], row_along(start, least, step_prices(grouping_size(start), prices)))


def shows_cheap_row(start, goal, prices, value):
    """Return whether a value is the pair (price, row) of a cheapest tuple of steps that makes the goal of the start."""
    check_groupings(start, goal)
    size = grouping_size(start)
    check_prices(prices, size)
    if not is_numbered_row(value, size, MOST_CHEAP_STEPS):
        return False
    price, row = value
    if all_stepped(start, row) != goal:
        return False
    costs = step_prices(size, prices)
    return sum([costs[step] for step in row]) == price and price == least_ways(goal, prices)[start][0]


def worths(goal, prices):
    """Return the tuple of the least prices of rows to the goal from all groupings, ascending."""
    check_grouping(goal)
    check_prices(prices, grouping_size(goal))
    return tuple([way[0] for way in least_ways(goal, prices).values()])


def shows_price_paper(start, goal, prices, value):
    """Return whether a value is numbers of all groupings which show the least price from the start to the goal."""
    check_groupings(start, goal)
    size = grouping_size(start)
    check_prices(prices, size)
    known = groupings(size)
    if not isinstance(value, tuple) or len(value) != len(known) or not all([is_integer(number) for number in value]):
        return False
    numbers = {grouping: number for grouping, number in zip(known, value)}
    if numbers[goal] != 0 or numbers[start] != least_ways(goal, prices)[start][0]:
        return False
    return is_paper(numbers, step_prices(size, prices))
