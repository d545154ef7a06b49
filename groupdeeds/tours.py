"""Tours past several groupings: the cheapest ones, and the order of the stops."""

from itertools import permutations

from groupdeeds.checks import check_grouping, grouping_size, is_numbered_row, is_some, wrong_groupings
from groupdeeds.errors import BadStops
from groupdeeds.groupings import stepped
from groupdeeds.prices import check_prices, least_ways, row_along, step_prices

MOST_STOPS = 4
MOST_TOUR_STEPS = 1000


def check_stops(value, size):
    """Raise an error for a value that is no stops of a size."""
    if not is_some(value, MOST_STOPS):
        raise BadStops(None)
    wrong = wrong_groupings(value, size)
    if wrong:
        raise BadStops(wrong[0])


def check_tour(start, stops, prices):
    """Raise an error for values that are not a grouping, and stops and prices of its size."""
    check_grouping(start)
    size = grouping_size(start)
    check_stops(stops, size)
    check_prices(prices, size)


def order_price(start, stops, order, ways):
    """Return the least price of going from a start to the stops in an order of their indexes.

    The ways are, for each stop, the least pairs (price, steps) from all groupings.
    """
    total = 0
    here = start
    for at in order:
        total = total + ways[at][here][0]
        here = stops[at]
    return total


def best_order(start, stops, ways):
    """Return the pair (price, order) of the smallest of the cheapest orders of the indexes of the stops."""
    orders = list(permutations(range(len(stops))))
    return min([(order_price(start, stops, order, ways), order) for order in orders])


def ways_to_stops(stops, prices):
    """Return, for each stop, the least pairs (price, steps) of ways to it from all groupings."""
    return [least_ways(stop, prices) for stop in stops]


def cheap_tour(start, stops, prices):
    """Return the pair (price, row) of a cheapest tuple of steps on whose way all stops stand."""
    check_tour(start, stops, prices)
    ways = ways_to_stops(stops, prices)
    price, order = best_order(start, stops, ways)
    costs = step_prices(grouping_size(start), prices)
    row = ()
    here = start
    for at in order:
        row = row + row_along(here, ways[at], costs)
        here = stops[at]
    return (price, row)


def shows_cheap_tour(start, stops, prices, value):
    """Return whether a value is the pair (price, row) of a cheapest tuple of steps on whose way all stops stand."""
    check_tour(start, stops, prices)
    size = grouping_size(start)
    if not is_numbered_row(value, size, MOST_TOUR_STEPS):
        return False
    price, row = value
    passed = [start]
    for step in row:
        passed.append(stepped(passed[-1], step))
    if not all([stop in passed for stop in stops]):
        return False
    costs = step_prices(size, prices)
    return sum([costs[step] for step in row]) == price == best_order(start, stops, ways_to_stops(stops, prices))[0]


def tour_order(start, stops, prices):
    """Return the smallest tuple of the indexes of all stops in which some cheapest tour goes to them."""
    check_tour(start, stops, prices)
    return best_order(start, stops, ways_to_stops(stops, prices))[1]
