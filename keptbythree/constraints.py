"""Constraints: what the values of some variables, given by their names, must satisfy."""

from keptbythree.checks import check_names, check_same_kinds
from keptbythree.errors import BadConstraint, BadRow, KindsDiffer
from keptbythree.links import linked
from keptbythree.narrow import narrowed
from keptbythree.rows import check_closed
from keptbythree.values import is_integer, is_value

# The most names of a table, since its rows are looked at as a whole.
_MOST_IN_TABLE = 3


class Constraint:
    """What the four constraints have in common."""

    def __init__(self, names):
        self._names = names

    @property
    def names(self):
        """The names of the variables."""
        return self._names

    def allows(self, *values):
        """Whether these, any values, can be values of the names at all: integers, equal where the names are."""
        return _fit(self._names, values)


class Table(Constraint):
    """The values form one of some rows."""

    def __init__(self, *names, rows):
        check_names(names)
        if not 1 <= len(names) <= _MOST_IN_TABLE:
            raise BadConstraint()
        Constraint.__init__(self, names)
        self._rows = list(rows)

    @property
    def names(self):
        """The names of the variables."""
        return self._names

    def allows(self, *values):
        """Whether the values form one of the rows."""
        return _fit(self._names, values) and values in self._rows

    def __str__(self):
        names = " ".join(self._names)
        rows = " ".join(["".join([str(value) for value in row]) for row in sorted(set(self._rows))])
        return f"{names} among {rows or '-'}"

    def check_kinds(self, kinds):
        """Raises an error if the rows are not a closed list of rows for these kinds of the names."""
        check_closed(kinds, self._rows)

    def imposed(self, frame, places):
        """The frame of the rows that satisfy the constraint, with the names at these places, or None."""
        return narrowed(frame, places, self._rows)


class Fixed(Constraint):
    """A variable has a certain value."""

    def __init__(self, name, value):
        names = (name,)
        check_names(names)
        Constraint.__init__(self, names)
        self._value = value

    @property
    def names(self):
        """The names of the variables."""
        return self._names

    def allows(self, *values):
        """Whether the value is the certain one."""
        return _fit(self._names, values) and values[0] == self._value

    def __str__(self):
        return f"{self._names[0]} equals {self._value}"

    def check_kinds(self, kinds):
        """Raises an error if the value is not one of this kind of the name."""
        if not is_value(self._value, kinds[0].size):
            raise BadRow((self._value,))

    def imposed(self, frame, places):
        """The frame of the rows that satisfy the constraint, with the names at these places, or None."""
        return narrowed(frame, places, [(self._value,)])


class Equal(Constraint):
    """All values are equal."""

    def __init__(self, *names):
        check_names(names)
        if len(names) < 2:
            raise BadConstraint()
        Constraint.__init__(self, names)

    @property
    def names(self):
        """The names of the variables."""
        return self._names

    def allows(self, *values):
        """Whether the values are equal integers."""
        return _fit(self._names, values) and all([value == values[0] for value in values])

    def __str__(self):
        names = " ".join(self._names)
        return f"{names} alike"

    def check_kinds(self, kinds):
        """Raises an error if these kinds of the names are not all the same."""
        for place in range(len(kinds)):
            if kinds[place] != kinds[0]:
                raise KindsDiffer(0, place)

    def imposed(self, frame, places):
        """The frame of the rows that satisfy the constraint, with the names at these places, or None."""
        alike = [(value, value) for value in range(len(frame.tables[places[0]]))]
        for place in places[1:]:
            frame = narrowed(frame, (places[0], place), alike)
            if frame is None:
                return None
        return frame


class Member(Constraint):
    """The values form a row of a set."""

    def __init__(self, *names, closed):
        check_names(names)
        if not names:
            raise BadConstraint()
        Constraint.__init__(self, names)
        self._closed = closed

    @property
    def names(self):
        """The names of the variables."""
        return self._names

    def allows(self, *values):
        """Whether the values form a row of the set."""
        return _fit(self._names, values) and self._closed.has(values)

    def __str__(self):
        names = " ".join(self._names)
        return f"{names} within a set"

    def check_kinds(self, kinds):
        """Raises an error if these kinds of the names are not those of the set."""
        check_same_kinds(kinds, self._closed.kinds)

    def imposed(self, frame, places):
        """The frame of the rows that satisfy the constraint, with the names at these places, or None."""
        if self._closed.is_empty:
            return None
        pairs = [(place, second) for second, place in enumerate(places)]
        return linked(frame, self._closed._frame(), pairs)


def _fit(names, values):
    """Whether these, any values, are integers, one for each name, equal where the names are."""
    if len(values) != len(names) or not all([is_integer(value) for value in values]):
        return False
    given = {}
    return all([given.setdefault(name, value) == value for name, value in zip(names, values)])
