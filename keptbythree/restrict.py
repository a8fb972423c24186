"""The rows of a set that have certain values at certain places."""

from keptbythree.errors import BadPlace, BadRow, KindsDiffer
from keptbythree.goals import values_at
from keptbythree.narrow import narrowed
from keptbythree.rows import check_closed
from keptbythree.sets import ClosedSet
from keptbythree.values import is_value


def restricted(closed, places, rows):
    """The rows of the set whose values at the places form one of the rows."""
    for place in places:
        _check_place(closed, place)
    check_closed(values_at(closed.kinds, places), rows)
    return _narrowed_set(closed, places, rows)


def fixed(closed, place, value):
    """The rows of the set with this value at the place."""
    _check_place(closed, place)
    if not is_value(value, closed.kinds[place].size):
        raise BadRow((value,))
    return _narrowed_set(closed, (place,), [(value,)])


def equated(closed, place, other):
    """The rows of the set with equal values at the two places."""
    _check_place(closed, place)
    _check_place(closed, other)
    if closed.kinds[place] != closed.kinds[other]:
        raise KindsDiffer(place, other)
    return _narrowed_set(closed, (place, other), [(value, value) for value in range(closed.kinds[place].size)])


def _check_place(closed, place):
    if not is_value(place, closed.width):
        raise BadPlace(place)


def _narrowed_set(closed, places, rows):
    """The rows of the set whose values at the places form one of the rows, which are closed."""
    if closed._entries is None:
        return closed
    return ClosedSet(closed.kinds, narrowed(closed._tables, closed._entries, places, rows))
