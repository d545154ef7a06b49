"""A party: a grouping that steps change, and that remembers them."""

from groupdeeds.checks import check_person, check_size
from groupdeeds.drawings import composed, drawn_step, resting
from groupdeeds.errors import BadPerson, NothingToUndo
from groupdeeds.groupings import lots_of, stepped


class Party:
    """Keeps a grouping, all alone at first, and the drawing of all steps that have not been taken back."""

    def __init__(self, size):
        check_size(size)
        self._size = size
        # The pairs (grouping, drawing) at first and behind each step.
        self._past = [(lots_of(list(range(size))), resting(size))]

    def join(self, one, other):
        """Join the groups of two unlike people; return whether they were two."""
        check_person(one, self._size)
        check_person(other, self._size)
        if one == other:
            raise BadPerson("the two are one person")
        before = self.groups()
        self._take((min(one, other), max(one, other)))
        return self.groups() != before

    def leave(self, one):
        """Let a person leave; return the people whom it leaves, ascending."""
        check_person(one, self._size)
        left = [person for lot in self.groups() if one in lot for person in lot if person != one]
        self._take((one,))
        return tuple(left)

    def groups(self):
        """Return the grouping."""
        return self._past[-1][0]

    def steps(self):
        """Return the number of all steps that have not been taken back."""
        return len(self._past) - 1

    def drawing(self):
        """Return the drawing of all steps that have not been taken back."""
        return self._past[-1][1]

    def undo(self):
        """Take back the last step that has not been taken back."""
        if self.steps() == 0:
            raise NothingToUndo("no step is left")
        self._past.pop()

    def _take(self, step):
        """Change the grouping and the drawing by a good step."""
        grouping, made = self._past[-1]
        self._past.append((stepped(grouping, step), composed(made, drawn_step(self._size, step))))
