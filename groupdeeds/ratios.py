"""Ratios: pairs (top, bottom) in lowest terms, their sums, and equations that they solve."""

from math import gcd

from groupdeeds.checks import is_integer


def is_ratio(value):
    """Return whether a value is a ratio."""
    if not isinstance(value, tuple) or len(value) != 2:
        return False
    if not is_integer(value[0]) or not is_integer(value[1]):
        return False
    return value[1] > 0 and gcd(value[0], value[1]) == 1


def ratio_of(top, bottom):
    """Return the ratio of two integers, the second of which is not 0."""
    shared = gcd(top, bottom)
    if bottom < 0:
        shared = -shared
    return (top // shared, bottom // shared)


def ratio_sum(pairs):
    """Return the ratio that pairs (top, bottom) sum up to, be they in lowest terms or not."""
    total = (0, 1)
    for top, bottom in pairs:
        total = ratio_of(total[0] * bottom + top * total[1], total[1] * bottom)
    return total


def lowered(numbers):
    """Return integers divided by their greatest common divisor."""
    shared = 0
    for number in numbers:
        shared = gcd(shared, number)
    return [number // shared for number in numbers] if shared > 1 else numbers


def cleared(row, pivot, at):
    """Return a row less so much of another one that its number at a place is 0."""
    return lowered([number * pivot[at] - less * row[at] for number, less in zip(row, pivot)])


def solved(rows):
    """Return the ratios that solve equations, of which there are as many as unknowns, and one solution only.

    Each row has the integer factors of the unknowns, and then what they make in all.
    """
    many = len(rows)
    for at in range(many):
        turn = [place for place in range(at, many) if rows[place][at] != 0][0]
        pivot = rows[turn]
        rest = [row for place, row in enumerate(rows) if place != turn]
        below = [cleared(row, pivot, at) for row in rest]
        rows = below[:at] + [pivot] + below[at:]
    return [ratio_of(row[-1], row[at]) for at, row in enumerate(rows)]
