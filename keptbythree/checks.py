"""Checks of arguments that several modules make."""

from keptbythree.errors import BadName, BadPlace, KindsDiffer
from keptbythree.values import is_name, is_value


def check_place(closed, place):
    """Raises an error if this, any value, is not a place of the set."""
    if not is_value(place, closed.width):
        raise BadPlace(place)


def check_same_kinds(kinds, others):
    """Raises an error for the first place at which the kinds differ, or that only one of the lists has."""
    for place in range(max(len(kinds), len(others))):
        if list(kinds[place:place + 1]) != list(others[place:place + 1]):
            raise KindsDiffer(place, place)


def check_names(names):
    """Raises an error for the first of these, any values, that is not a name."""
    for name in names:
        if not is_name(name):
            raise BadName(name)
