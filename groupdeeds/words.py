"""Words of groupings, and crowds of many people."""

from groupdeeds.checks import MOST_PEOPLE, check_grouping, is_integer_from, is_some
from groupdeeds.errors import BadCrowd, BadWord
from groupdeeds.groupings import lots_of, marks_of

MOST_IN_CROWD = 200
GREATEST_NAME = 999


def is_word(value):
    """Return whether a value is the word of a grouping."""
    if not is_some(value, MOST_PEOPLE):
        return False
    fresh = 0
    for mark in value:
        if not is_integer_from(mark, 0, fresh):
            return False
        fresh = max(fresh, mark + 1)
    return True


def is_crowd(value):
    """Return whether a value is a crowd."""
    return is_some(value, MOST_IN_CROWD) and all([is_integer_from(name, 0, GREATEST_NAME) for name in value])


def check_crowd(value):
    """Raise an error for a value that is no crowd."""
    if not is_crowd(value):
        raise BadCrowd("not a crowd")


def check_crowds(one, other):
    """Raise an error for values that are not two crowds of as many people."""
    check_crowd(one)
    check_crowd(other)
    if len(other) != len(one):
        raise BadCrowd(f"not a crowd of {len(one)}")


def names_of(crowd):
    """Return the list of the names of a good crowd, each once, in the order in which they come."""
    return list({name: True for name in crowd})


def shared_by_names(one, other):
    """Return a dict with, for each pair of names, the number of people who have both."""
    shared = {}
    for pair in zip(one, other):
        shared[pair] = shared.get(pair, 0) + 1
    return shared


def most_by_name(shared):
    """Return a dict with, for each first name of the pairs, the greatest number of people who have both."""
    most = {}
    for (name, _), many in shared.items():
        most[name] = max(most.get(name, 0), many)
    return most


def word_of(grouping):
    """Return the tuple of the numbers of each person's group."""
    check_grouping(grouping)
    return tuple(marks_of(grouping))


def grouping_of(word):
    """Return the grouping of a word."""
    if not is_word(word):
        raise BadWord("not a word")
    return lots_of(word)


def crowd_word(crowd):
    """Return the word of a crowd."""
    check_crowd(crowd)
    numbers = {name: at for at, name in enumerate(names_of(crowd))}
    return tuple([numbers[name] for name in crowd])


def crowd_groups(crowd):
    """Return the number of groups of a crowd."""
    check_crowd(crowd)
    return len(names_of(crowd))


def crowd_distance(one, other):
    """Return the least number of steps from one crowd to another."""
    check_crowds(one, other)
    leavers = len(one) - sum(most_by_name(shared_by_names(one, other)).values())
    return 2 * leavers + len(names_of(one)) - len(names_of(other))


def crowd_shares(one, other):
    """Return the ascending tuple of the triples (name, other name, number of the people who have both)."""
    check_crowds(one, other)
    shared = shared_by_names(one, other)
    return tuple(sorted([(name, twin, shared[(name, twin)]) for name, twin in shared]))
