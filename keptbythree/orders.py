"""The same rows with their places in another order."""

from keptbythree.entries import ascending, entry_of, groups, moved
from keptbythree.errors import BadOrder
from keptbythree.frames import cut, values_at
from keptbythree.least import settled
from keptbythree.sets import ClosedSet
from keptbythree.values import is_value


def reordered(closed, order):
    """The set whose rows have at place i the value of place order[i]."""
    if not _is_order(order, closed.width):
        raise BadOrder()
    return taken(closed, order)


def taken(closed, places):
    """The set of the values at these different places, in this order."""
    kinds = values_at(closed.kinds, places)
    if closed.is_empty:
        return ClosedSet(kinds, None)
    return ClosedSet(kinds, settled(arranged(closed._tables, closed._columns, closed._entries, places)))


def arranged(tables, columns, entries, places):
    """The frame of the values at these different places, in this order, of the set with these entries."""
    order = [*places, *[place for place in range(len(tables)) if place not in places]]
    return cut(tables, columns, Arranging(tables, entries).entries_for(order), places)


def _is_order(thing, width):
    """Whether the thing, any value, is a list or tuple of all places, each once."""
    if not isinstance(thing, (list, tuple)) or len(thing) != width:
        return False
    return all([is_value(place, width) for place in thing]) and sorted(thing) == list(range(width))


def _is_spread(group, place):
    """Whether the rows of the group have several values at the place."""
    return len({group[value][place] for value in group}) > 1


def _groups_by(entry, group_of):
    """The groups that a function makes of rows of the entry, until they have all of its values."""
    known = {}
    made = []
    for value in entry:
        if value not in known:
            group = group_of(entry[value][value])
            known.update(group)
            made.append(group)
    return made


class Arranging:
    """The entries of a set while its places are brought into another order, by exchanges of neighbours.

    The rows keep the values at their places all the time. The entries belong to the order that was reached: the rows of
    a group agree at the places that stand before its own one.
    """

    def __init__(self, tables, entries):
        self._tables = tables
        self._entries = list(entries)
        self._groups = [groups(entry) for entry in entries]

    def entries_for(self, order):
        """The entries, by the places, for the order."""
        now = list(range(len(order)))
        for turn in range(len(order)):
            at = now.index(order[turn])
            while at > turn:
                at -= 1
                self._exchange(now[at], now[at + 1])
                now[at], now[at + 1] = now[at + 1], now[at]
        return self._entries

    def _exchange(self, place, other):
        """Exchanges two neighbours. Only the entries of these two may change.

        They stay if the rows of each group of the place agree at the other one already, as they mostly do.
        """
        made = self._groups[place]
        if any([_is_spread(group, other) for group in made]):
            if self._is_free(place, other):
                self._keep(place, [self._levelled(group, other) for group in made])
            else:
                before = _groups_by(self._entries[other], lambda row: self._group_before(row, place, other))
                behind = _groups_by(self._entries[place], lambda row: self._group_behind(row, place, other))
                self._keep(place, behind)
                self._keep(other, before)

    def _keep(self, place, made):
        self._groups[place] = made
        self._entries[place] = entry_of(made)

    def _is_free(self, place, other):
        """Whether the classes of the other place stay if rows need not agree at the place before.

        So it is if the rows of each group of the place have values of one class at the other one. Then the rows of the
        group can be moved there to one value, and its class stays, too.
        """
        entry = self._entries[other]
        for group in self._groups[place]:
            near = entry[group[min(group)][other]]
            for value in group:
                if group[value][other] not in near:
                    return False
        return True

    def _levelled(self, group, other):
        """The group with its rows moved to one value at the other place, which is of one class for all."""
        wanted = group[min(group)][other]
        return {value: self._moved(group[value], other, wanted) for value in group}

    def _moved(self, row, place, value):
        return moved(self._tables, self._entries, row, place, value)

    def _group_before(self, row, place, other):
        """The values at the other place in the rows that agree with the row before both places."""
        group = {}
        for first in self._entries[place][row[place]]:
            near = self._moved(row, place, first)
            if near[other] not in group:
                for second in self._entries[other][near[other]]:
                    group[second] = self._moved(near, other, second)
        return ascending(group)

    def _group_behind(self, row, place, other):
        """The values at the place in the rows that agree with the row before both places and at the other one."""
        group = {}
        for first in self._entries[place][row[place]]:
            near = self._moved(row, place, first)
            if row[other] in self._entries[other][near[other]]:
                group[first] = self._moved(near, other, row[other])
        return group
