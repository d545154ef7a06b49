"""Rules for who may leave and who may join, and what steps within them lead to."""

from groupdeeds.checks import check_grouping, check_groupings, check_size, grouping_size, is_ascending, is_integer_from
from groupdeeds.checks import is_pairs
from groupdeeds.errors import BadRule
from groupdeeds.groupings import groupings, stepped

MOST_TOGETHER = 6


def is_people(value, size):
    """Return whether a value is an ascending tuple of people of a size."""
    if not isinstance(value, tuple) or not all([is_integer_from(person, 0, size - 1) for person in value]):
        return False
    return is_ascending(value)


def check_rule(value, size):
    """Raise an error for a value that is no rule of a size."""
    if not isinstance(value, tuple) or len(value) != 3:
        raise BadRule(None)
    if not is_people(value[0], size):
        raise BadRule(0)
    if not is_pairs(value[1], size):
        raise BadRule(1)
    if not is_integer_from(value[2], 1, MOST_TOGETHER):
        raise BadRule(2)


def open_steps(grouping, rule):
    """Return the list of all steps, ascending, that a rule allows for a good grouping and that change it."""
    leavers, pairs, most = rule
    homes = {person: lot for lot in grouping for person in lot}
    found = [(person,) for person in leavers if len(homes[person]) > 1]
    for one, other in pairs:
        if homes[one] != homes[other] and len(homes[one]) + len(homes[other]) <= most:
            found.append((one, other))
    return sorted(found)


def open_rows(start, rule):
    """Return a dict with, for each grouping that a rule lets come of a start, the smallest of the shortest rows."""
    rows = {start: ()}
    fresh = [start]
    # Rows are met ascending within each length, so the first one to a grouping is the smallest.
    while fresh:
        later = []
        for here in fresh:
            for step in open_steps(here, rule):
                there = stepped(here, step)
                if there not in rows:
                    rows[there] = rows[here] + (step,)
                    later.append(there)
        fresh = later
    return rows


def check_way(start, goal, rule):
    """Raise an error for values that are not two groupings of one size and a rule of it."""
    check_groupings(start, goal)
    check_rule(rule, grouping_size(start))


def allowed(grouping, rule):
    """Return the ascending tuple of all steps that are allowed and change a grouping."""
    check_grouping(grouping)
    check_rule(rule, grouping_size(grouping))
    return tuple(open_steps(grouping, rule))


def rule_row(start, goal, rule):
    """Return the smallest of the shortest rows of allowed steps that make the goal of the start, None without one."""
    check_way(start, goal, rule)
    return open_rows(start, rule).get(goal)


def rule_distance(start, goal, rule):
    """Return the least number of allowed steps that make the goal of the start, None if none do."""
    check_way(start, goal, rule)
    rows = open_rows(start, rule)
    return len(rows[goal]) if goal in rows else None


def rule_reached(start, rule):
    """Return the ascending tuple of all groupings that rows of allowed steps make of the start."""
    check_grouping(start)
    check_rule(rule, grouping_size(start))
    return tuple(sorted(open_rows(start, rule)))


def dead_ones(size, rule):
    """Return the ascending tuple of all groupings that no allowed step changes."""
    check_size(size)
    check_rule(rule, size)
    return tuple([known for known in groupings(size) if not open_steps(known, rule)])
