"""The errors of the package."""


class GroupError(ValueError):
    """The base class of all errors of the package."""


class BadSize(GroupError):
    """A value is no size."""


class BadGrouping(GroupError):
    """A value is no grouping, or one of another size."""


class BadCount(GroupError):
    """A value is no integer within the bounds."""


class BadStep(GroupError):
    """A value is no step."""


class BadRow(GroupError):
    """A value is no row: the index of the first thing that is no step, None if it is no such tuple."""

    def __init__(self, index):
        super().__init__(f"no row, index {index}")
        self.index = index


class BadDrawing(GroupError):
    """A value is no drawing, or one of another size."""


class NoRow(GroupError):
    """No row has a drawing."""


class NoTwo(GroupError):
    """A drawing has not just two ties."""


class BadPrices(GroupError):
    """A value is no prices, or those of another size."""


class BadWeights(GroupError):
    """A value is no weights, or those of another size."""


class BadPerson(GroupError):
    """A value is no person."""


class BadSights(GroupError):
    """A value is no sights: the index of the first bad one, None if it is no such tuple."""

    def __init__(self, index):
        super().__init__(f"no sights, index {index}")
        self.index = index


class BadRule(GroupError):
    """A value is no rule: the index of its first bad part, None if it is no triple."""

    def __init__(self, index):
        super().__init__(f"no rule, index {index}")
        self.index = index


class BadLikings(GroupError):
    """A value is no likings, or those of another size."""


class BadNumber(GroupError):
    """A value is no number of a grouping."""


class BadOrder(GroupError):
    """A value is no new names, or those of another size."""


class BadTies(GroupError):
    """A value is no pairs of indexes of lots."""


class BadGroupings(GroupError):
    """A value is no groupings: the index of the first bad one, None if it is no such tuple."""

    def __init__(self, index):
        super().__init__(f"no groupings, index {index}")
        self.index = index


class NotText(GroupError):
    """A value is no string."""


class InvalidText(GroupError):
    """A text names nothing: the place of the first character that is not allowed."""

    def __init__(self, place):
        super().__init__(f"invalid text, place {place}")
        self.place = place


class NothingToUndo(GroupError):
    """There is no step to take back."""


class BadStops(GroupError):
    """A value is no stops: the index of the first bad one, None if it is no such tuple."""

    def __init__(self, index):
        super().__init__(f"no stops, index {index}")
        self.index = index


class BadTold(GroupError):
    """A value is no told pairs: the index of the first bad part, None if it is no pair of tuples."""

    def __init__(self, index):
        super().__init__(f"no told pairs, index {index}")
        self.index = index


class BadWord(GroupError):
    """A value is no word of a grouping."""


class BadCrowd(GroupError):
    """A value is no crowd, or one of another number of people."""


class TooMany(GroupError):
    """There are more people or steps than the most that are taken."""

    def __init__(self, most):
        super().__init__(f"more than {most}")
        self.most = most
