"""Moves of single people, and groups of two groupings matched to keep most people where they are."""

from itertools import permutations

from groupdeeds.checks import check_groupings, grouping_size, is_integer
from groupdeeds.pieces import are_matched
from groupdeeds.ratios import is_ratio, ratio_sum


def overlaps(one, other):
    """Return, for each group of the one and each group of the other, the number of their people in both."""
    return [[len([person for person in lot if person in wide]) for wide in other] for lot in one]


def matchings(many, others):
    """Return the list of all matchings of as many indexes as there can be, each an ascending list of pairs."""
    if many <= others:
        return [list(enumerate(order)) for order in permutations(range(others), many)]
    return [sorted([(at, other) for other, at in enumerate(order)]) for order in permutations(range(many), others)]


def kept_by(table, pairs):
    """Return the number of people in both groups of each pair."""
    return sum([table[one][other] for one, other in pairs])


def greatest_matching(table):
    """Return the pair (kept, pairs) of a matching that keeps most people."""
    found = [(kept_by(table, pairs), pairs) for pairs in matchings(len(table), len(table[0]))]
    return max(found)


def covers(table):
    """Return pairs of lists of integers from 0 on that cover a table, one with the least sum among them.

    None of the first ones is greater than it need be; the second ones are as small as the first ones let them be.
    """
    sides = [[]]
    for shared in table:
        sides = [side + [number] for side in sides for number in range(max(shared) + 1)]
    found = []
    for firsts in sides:
        left = [[many - first for many in row] for first, row in zip(firsts, table)]
        found.append((firsts, [max([0] + [needs[at] for needs in left]) for at in range(len(table[0]))]))
    return found


def least_cover(table):
    """Return a pair of lists of integers from 0 on that covers a table with the least sum."""
    return min([(sum(firsts) + sum(seconds), (firsts, seconds)) for firsts, seconds in covers(table)])[1]


def is_number_side(value, many):
    """Return whether a value is a tuple of so many ratios from 0 on."""
    if not isinstance(value, tuple) or len(value) != many:
        return False
    return all([is_ratio(number) and number[0] >= 0 for number in value])


def move_distance(one, other):
    """Return the least number of moves from one grouping to another."""
    check_groupings(one, other)
    return grouping_size(one) - greatest_matching(overlaps(one, other))[0]


def best_matching(one, other):
    """Return the pair (kept, pairs) of a matching of unlike groups that keeps most people."""
    check_groupings(one, other)
    kept, pairs = greatest_matching(overlaps(one, other))
    return (kept, tuple(pairs))


def shows_best_matching(one, other, value):
    """Return whether a value is the pair (kept, pairs) of a matching of unlike groups that keeps most people."""
    check_groupings(one, other)
    if not isinstance(value, tuple) or len(value) != 2:
        return False
    if not is_integer(value[0]) or not are_matched(value[1], len(one), len(other)):
        return False
    table = overlaps(one, other)
    return value[0] == kept_by(table, value[1]) == greatest_matching(table)[0]


def match_paper(one, other):
    """Return a pair of tuples of ratios, one for each group, which show how many people can be kept at most."""
    check_groupings(one, other)
    firsts, seconds = least_cover(overlaps(one, other))
    return (tuple([(number, 1) for number in firsts]), tuple([(number, 1) for number in seconds]))


def shows_match_paper(one, other, value):
    """Return whether a value is a pair of tuples of ratios which show how many people can be kept at most."""
    check_groupings(one, other)
    if not isinstance(value, tuple) or len(value) != 2:
        return False
    firsts, seconds = value
    if not is_number_side(firsts, len(one)) or not is_number_side(seconds, len(other)):
        return False
    table = overlaps(one, other)
    for first, row in zip(firsts, table):
        for second, many in zip(seconds, row):
            if ratio_sum([first, second, (-many, 1)])[0] < 0:
                return False
    return ratio_sum(firsts + seconds) == (greatest_matching(table)[0], 1)
