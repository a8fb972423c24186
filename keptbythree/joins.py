"""Sets without some of their places, and sets that are put together from two."""

from keptbythree.checks import check_place, check_same_kinds
from keptbythree.errors import Full, KindsDiffer
from keptbythree.least import settled
from keptbythree.links import linked
from keptbythree.orders import taken
from keptbythree.sets import ClosedSet

# The most values that a row of a joined set has.
_MOST = 12


def hidden(closed, *places):
    """The set of the rows without these places."""
    for place in places:
        check_place(closed, place)
    return taken(closed, [place for place in range(closed.width) if place not in places])


def joined(one, other, *pairs):
    """The rows of one, followed by those of the other one that have equal values at the two places of each pair.

    The places of the other one that are in pairs are left out.
    """
    for place, second in pairs:
        _check_pair(one, other, place, second)
    paired = [second for _, second in pairs]
    kept = [kind for place, kind in enumerate(other.kinds) if place not in paired]
    if one.width + len(kept) > _MOST:
        raise Full(_MOST)
    return _linked_set(one, other, pairs, [*one.kinds, *kept])


def common(one, other):
    """The rows that are in both sets."""
    check_same_kinds(one.kinds, other.kinds)
    return _linked_set(one, other, [(place, place) for place in range(one.width)], one.kinds)


def _check_pair(one, other, place, second):
    check_place(one, place)
    check_place(other, second)
    if one.kinds[place] != other.kinds[second]:
        raise KindsDiffer(place, second)


def _linked_set(one, other, pairs, kinds):
    """The joined set, with these kinds."""
    if one.is_empty or other.is_empty:
        return ClosedSet(kinds, None)
    frame = linked(one._frame(), other._frame(), pairs)
    return ClosedSet(kinds, None if frame is None else settled(frame))
