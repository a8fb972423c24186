"""States: all that a store knows at one time. A state never changes; each action makes a new one."""

from keptbythree.checks import check_names
from keptbythree.constraints import Constraint
from keptbythree.errors import (BadConstraint, BadOrder, BadRow, DuplicateName, Full, UnknownName, UnknownNumber,
                                WrongState)
from keptbythree.values import is_integer, is_value

_MOST_VARIABLES = 12
_MOST_CONSTRAINTS = 10


class State:
    """The variables with their kinds, the visible ones in their order, and the constraints by their numbers."""

    def __init__(self, variables, visible, standing, last):
        self.variables = variables
        self.visible = visible
        self.standing = standing
        self.last = last

    def places(self, given):
        """The places of the variables with these names, in the order in which they were added."""
        found = list(self.variables)
        return [found.index(name) for name in given]

    def with_variables(self, given, kind):
        """The state with more variables of this kind."""
        variables = dict(self.variables)
        for name in given:
            check_names([name])
            if name in variables:
                raise DuplicateName(name)
            variables[name] = kind
        if len(variables) > _MOST_VARIABLES:
            raise Full(_MOST_VARIABLES)
        return State(variables, self.visible + given, self.standing, self.last)

    def with_constraint(self, constraint):
        """The state with one more constraint."""
        if not isinstance(constraint, Constraint):
            raise BadConstraint()
        for name in constraint.names:
            self.check_known(name)
        constraint.check_kinds([self.variables[name] for name in constraint.names])
        if len(self.standing) >= _MOST_CONSTRAINTS:
            raise Full(_MOST_CONSTRAINTS)
        standing = dict(self.standing)
        standing[self.last + 1] = constraint
        return State(self.variables, self.visible, standing, self.last + 1)

    def without(self, number):
        """The state without the constraint of this number, any value."""
        if not is_integer(number) or number not in self.standing:
            raise UnknownNumber(number)
        standing = dict(self.standing)
        del standing[number]
        return State(self.variables, self.visible, standing, self.last)

    def with_hidden(self, given):
        """The state in which the variables with these names, any values, are hidden."""
        visible = list(self.visible)
        for name in given:
            self.check_known(name)
            if name not in visible:
                raise WrongState(name)
            visible.remove(name)
        return State(self.variables, tuple(visible), self.standing, self.last)

    def with_shown(self, given):
        """The state in which the hidden variables with these names, any values, are visible."""
        visible = list(self.visible)
        for name in given:
            self.check_known(name)
            if name in visible:
                raise WrongState(name)
            visible.append(name)
        return State(self.variables, tuple(visible), self.standing, self.last)

    def with_order(self, given):
        """The state in which this, any value, is the order of the visible variables."""
        if not isinstance(given, (list, tuple)) or not all([isinstance(name, str) for name in given]):
            raise BadOrder()
        if sorted(given) != sorted(self.visible):
            raise BadOrder()
        return State(self.variables, tuple(given), self.standing, self.last)

    def check_known(self, name):
        """Raises an error if this, any value, is not the name of a variable."""
        if not isinstance(name, str) or name not in self.variables:
            raise UnknownName(name)

    def check_fixed(self, values):
        """Raises an error for the first of these names that is unknown, or for which this, any value, is no value."""
        for name, value in values.items():
            self.check_known(name)
            if not is_value(value, self.variables[name].size):
                raise BadRow((value,))
