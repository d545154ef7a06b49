"""Groupings and rows as texts, there and back."""

from groupdeeds.checks import MOST_PEOPLE, MOST_STEPS, are_all, check_grouping, check_row
from groupdeeds.errors import InvalidText, NotText

DIGITS = "0123456789"


def check_text(value):
    """Raise an error for a value that is no string."""
    if not isinstance(value, str):
        raise NotText("not a string")


def behind_spaces(text, at):
    """Return the index of the first character from a place on that is no space, the text's length without one."""
    while at < len(text) and text[at] == " ":
        at = at + 1
    return at


def is_digit(text, at):
    """Return whether one of the digits 0 to 9 stands at a place, which may be behind the text's end."""
    return at < len(text) and text[at] in DIGITS


def person_at(text, at):
    """Return the person whose number stands at a place; its number is one digit."""
    if not is_digit(text, at) or is_digit(text, at + 1):
        raise InvalidText(at)
    if int(text[at]) >= MOST_PEOPLE:
        raise InvalidText(at)
    return int(text[at])


def lots_in(text):
    """Return the list of lists of people that a text names, in the text's order, nobody twice."""
    lots = [[]]
    named = []
    at = behind_spaces(text, 0)
    while at < len(text) or not lots[-1]:
        if lots[-1] and text[at] == "/":
            lots.append([])
        else:
            person = person_at(text, at)
            if person in named:
                raise InvalidText(at)
            named.append(person)
            lots[-1].append(person)
        at = behind_spaces(text, at + 1)
    return lots


def step_at(text, at):
    """Return the pair (step, place behind it) of the step whose first number stands at a place."""
    one = person_at(text, at)
    at = behind_spaces(text, at + 1)
    if at == len(text) or text[at] not in "+-":
        raise InvalidText(at)
    if text[at] == "-":
        return ((one,), at + 1)
    at = behind_spaces(text, at + 1)
    other = person_at(text, at)
    if other == one:
        raise InvalidText(at)
    return ((min(one, other), max(one, other)), at + 1)


def written_step(step):
    """Return the text of a good step."""
    return f"{step[0]}-" if len(step) == 1 else f"{step[0]}+{step[1]}"


def write_grouping(grouping):
    """Return the text of a grouping."""
    check_grouping(grouping)
    return " / ".join([" ".join([str(person) for person in lot]) for lot in grouping])


def read_grouping(text):
    """Return the grouping that a text names."""
    check_text(text)
    lots = lots_in(text)
    if not are_all([person for lot in lots for person in lot]):
        raise InvalidText(len(text))
    return tuple(sorted([tuple(sorted(lot)) for lot in lots]))


def write_row(row):
    """Return the text of a row of 6 people."""
    check_row(row, MOST_PEOPLE)
    return " ".join([written_step(step) for step in row])


def read_row(text):
    """Return the row of 6 people that a text names."""
    check_text(text)
    row = []
    at = behind_spaces(text, 0)
    while at < len(text):
        if len(row) == MOST_STEPS:
            raise InvalidText(at)
        step, at = step_at(text, at)
        row.append(step)
        at = behind_spaces(text, at)
    return tuple(row)
