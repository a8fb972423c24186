"""Checks of arguments about sets that several modules make."""

from keptbythree.errors import BadPlace, KindsDiffer
from keptbythree.values import is_value


def check_place(closed, place):
    """Raises an error if this, any value, is not a place of the set."""
    if not is_value(place, closed.width):
        raise BadPlace(place)


def check_same_kinds(one, other):
    """Raises an error for the first place at which the kinds of the sets differ, or that only one of them has."""
    for place in range(max(one.width, other.width)):
        if one.kinds[place:place + 1] != other.kinds[place:place + 1]:
            raise KindsDiffer(place, place)
