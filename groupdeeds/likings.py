"""Likings of people for each other, and the worth of groupings by them."""

from itertools import combinations

from groupdeeds.checks import check_count, check_grouping, check_size, grouping_size, is_grouping_of, is_integer
from groupdeeds.checks import is_integer_from
from groupdeeds.errors import BadLikings
from groupdeeds.groupings import all_steps, groupings, marks_of, stepped

MOST_LIKING = 100
SIZES = {0: 1, 1: 2, 3: 3, 6: 4, 10: 5, 15: 6}


def check_likings(value, size):
    """Raise an error for a value that is no likings of a size."""
    if not isinstance(value, tuple) or len(value) != size * (size - 1) // 2:
        raise BadLikings(f"not likings of size {size}")
    if not all([is_integer_from(liking, -MOST_LIKING, MOST_LIKING) for liking in value]):
        raise BadLikings("a liking is an integer from -100 to 100")


def told_size(likings):
    """Return the size that the number of likings tells; raise an error for a value that is no likings."""
    if not isinstance(likings, tuple) or len(likings) not in SIZES:
        raise BadLikings("not likings of any size")
    size = SIZES[len(likings)]
    check_likings(likings, size)
    return size


def check_grouping_and_likings(grouping, likings):
    """Raise an error for values that are not a grouping and likings of its size."""
    check_grouping(grouping)
    check_likings(likings, grouping_size(grouping))


def check_size_and_likings(size, likings):
    """Raise an error for values that are not a size and likings of it."""
    check_size(size)
    check_likings(likings, size)


def likings_by_pair(size, likings):
    """Return a dict with the liking of each pair of people, the lesser one first."""
    pairs = list(combinations(range(size), 2))
    return {pair: liking for pair, liking in zip(pairs, likings)}


def liking_between(lot, other, liked):
    """Return the sum of the likings of all pairs with one of a lot and one of another lot."""
    return sum([liked[(min(one, two), max(one, two))] for one in lot for two in other])


def liking_within(grouping, liked):
    """Return the sum of the likings of all pairs who are together in a good grouping."""
    marks = marks_of(grouping)
    return sum([liked[pair] for pair in liked if marks[pair[0]] == marks[pair[1]]])


def worth_of(grouping, likings):
    """Return the worth of a good grouping by likings of its size."""
    return liking_within(grouping, likings_by_pair(grouping_size(grouping), likings))


def all_worths(size, likings):
    """Return a dict with the worth of each grouping of a size, groupings ascending."""
    liked = likings_by_pair(size, likings)
    return {known: liking_within(known, liked) for known in groupings(size)}


def is_at_rest(grouping, liked):
    """Return whether a good grouping is calm."""
    for at, lot in enumerate(grouping):
        for person in lot:
            if liking_between((person,), [mate for mate in lot if mate != person], liked) < 0:
                return False
        for other in grouping[:at]:
            if liking_between(lot, other, liked) > 0:
                return False
    return True


def worth(grouping, likings):
    """Return the sum of the likings of all pairs who are together."""
    check_grouping_and_likings(grouping, likings)
    return worth_of(grouping, likings)


def best_grouping(size, likings):
    """Return the pair (worth, grouping) of a grouping with the greatest worth."""
    check_size_and_likings(size, likings)
    worths = all_worths(size, likings)
    most = max(list(worths.values()))
    return (most, [known for known in worths if worths[known] == most][0])


def shows_best_grouping(size, likings, value):
    """Return whether a value is the pair (worth, grouping) of a grouping with the greatest worth."""
    check_size_and_likings(size, likings)
    if not isinstance(value, tuple) or len(value) != 2:
        return False
    if not is_integer(value[0]) or not is_grouping_of(value[1], size):
        return False
    worths = all_worths(size, likings)
    return value[0] == worths[value[1]] == max(list(worths.values()))


def best_of_lots(size, likings, many):
    """Return the greatest worth of a grouping of so many groups."""
    check_size_and_likings(size, likings)
    check_count(many, 1, size)
    worths = all_worths(size, likings)
    return max([worths[known] for known in worths if len(known) == many])


def is_calm(grouping, likings):
    """Return whether nobody is better off alone, and no two groups are better off as one."""
    check_grouping_and_likings(grouping, likings)
    return is_at_rest(grouping, likings_by_pair(grouping_size(grouping), likings))


def calm_ones(size, likings):
    """Return the ascending tuple of all calm groupings."""
    check_size_and_likings(size, likings)
    liked = likings_by_pair(size, likings)
    return tuple([known for known in groupings(size) if is_at_rest(known, liked)])


def climb(grouping, likings):
    """Return the row of always the smallest step to the greatest worth, as long as the worth grows."""
    check_grouping_and_likings(grouping, likings)
    worths = all_worths(grouping_size(grouping), likings)
    row = ()
    while True:
        ends = {step: stepped(grouping, step) for step in all_steps(grouping_size(grouping))}
        most = max([worths[there] for there in ends.values()])
        if most <= worths[grouping]:
            return row
        best = [step for step in ends if worths[ends[step]] == most][0]
        row = row + (best,)
        grouping = ends[best]
