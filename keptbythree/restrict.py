"""The rows of a set that have certain values at certain places."""

from keptbythree.checks import check_place
from keptbythree.errors import BadRow, KindsDiffer
from keptbythree.frames import values_at
from keptbythree.goals import Goal
from keptbythree.least import settled
from keptbythree.narrow import Narrowing
from keptbythree.rows import check_closed
from keptbythree.sets import ClosedSet
from keptbythree.values import is_value


def restricted(closed, places, rows):
    """The rows of the set whose values at the places form one of the rows."""
    for place in places:
        check_place(closed, place)
    check_closed(values_at(closed.kinds, places), rows)
    return _narrowed_set(closed, places, rows)


def fixed(closed, place, value):
    """The rows of the set with this value at the place."""
    check_place(closed, place)
    if not is_value(value, closed.kinds[place].size):
        raise BadRow((value,))
    if closed.is_empty or value not in closed._entries[place]:
        return ClosedSet(closed.kinds, None)
    return _narrowed_set(closed, (place,), [(value,)])


def equated(closed, place, other):
    """The rows of the set with equal values at the two places."""
    check_place(closed, place)
    check_place(closed, other)
    if closed.kinds[place] != closed.kinds[other]:
        raise KindsDiffer(place, other)
    return _narrowed_set(closed, (place, other), [(value, value) for value in range(closed.kinds[place].size)])


def _narrowed_set(closed, places, rows):
    """The rows of the set whose values at the places form one of the rows, which are closed."""
    if closed.is_empty:
        return closed
    goal = Goal(closed._columns, closed._entries, places, rows)
    if goal.has_all():
        return closed
    levels = goal.levels()
    if not goal.has_any(levels):
        return ClosedSet(closed.kinds, None)
    return ClosedSet(closed.kinds, settled(Narrowing(closed._frame(), goal, levels).frame()))
