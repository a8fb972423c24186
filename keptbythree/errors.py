"""The errors of the program. Their fields are copies of the arguments."""

from keptbythree.values import copied


class KeptError(ValueError):
    """The base of the errors about arguments of a wrong form."""


class BadKind(KeptError):
    """The thing is no table of a kind, or m(x, y, y) or m(y, y, x) is not x."""

    def __init__(self, x, y):
        self.x = copied(x)
        self.y = copied(y)


class BadSize(KeptError):
    """What was given is not the size of a kind."""

    def __init__(self, given):
        self.given = copied(given)


class BadEntries(KeptError):
    """These are not the free entries of a kind of this size."""


class BadRow(KeptError):
    """This is not a row as it is needed here."""

    def __init__(self, row):
        self.row = copied(row)


class NotClosed(KeptError):
    """The combination of three of the rows is not among them."""

    def __init__(self, x, y, z):
        self.x = copied(x)
        self.y = copied(y)
        self.z = copied(z)


class KindsDiffer(KeptError):
    """The kinds at two places are not the same, or one of them is missing."""

    def __init__(self, place, other):
        self.place = copied(place)
        self.other = copied(other)


class BadOrder(KeptError):
    """An order does not have all that it arranges, each once."""


class BadName(KeptError):
    """This is not a name."""

    def __init__(self, name):
        self.name = copied(name)


class BadConstraint(KeptError):
    """This is not a constraint, or one with too many or too few names."""


class BadCommand(KeptError):
    """A console does not know this command."""


class BadPlace(IndexError):
    """There is no such place."""

    def __init__(self, place):
        self.place = copied(place)


class UnknownName(KeyError):
    """There is no variable of this name."""

    def __init__(self, name):
        self.name = copied(name)


class DuplicateName(KeyError):
    """There is a variable of this name already."""

    def __init__(self, name):
        self.name = copied(name)


class UnknownNumber(KeyError):
    """No constraint with this number stands."""

    def __init__(self, number):
        self.number = copied(number)


class EmptySet(LookupError):
    """The set has no row."""


class Known(LookupError):
    """The row is in the guess of the learner already."""

    def __init__(self, row):
        self.row = copied(row)


class WrongState(LookupError):
    """The variable is hidden, or visible, already."""

    def __init__(self, name):
        self.name = copied(name)


class NothingLeft(LookupError):
    """There is nothing to undo, or to redo."""


class Full(OverflowError):
    """There would be more than there may be at the most."""

    def __init__(self, most):
        self.most = copied(most)


class Busy(RuntimeError):
    """This cannot be done in a batch."""
