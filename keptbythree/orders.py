"""The same rows with their places in another order."""

from keptbythree.entries import ascending, entry_of, groups, moved
from keptbythree.errors import BadOrder
from keptbythree.goals import values_at
from keptbythree.least import canonical
from keptbythree.sets import ClosedSet
from keptbythree.values import is_value


def reordered(closed, order):
    """The set whose rows have at place i the value of place order[i]."""
    if not _is_order(order, closed.width):
        raise BadOrder()
    kinds = values_at(closed.kinds, order)
    if closed._entries is None:
        return ClosedSet(kinds, None)
    entries = _arranged(closed._tables, closed._entries, order)
    return ClosedSet(kinds, canonical([kind.table for kind in kinds], entries))


def _is_order(thing, width):
    """Whether the thing, any value, is a list or tuple of all places, each once."""
    if not isinstance(thing, (list, tuple)) or len(thing) != width:
        return False
    return all([is_value(place, width) for place in thing]) and sorted(thing) == list(range(width))


def _arranged(tables, entries, order):
    """The entries for the order, with any rows, by exchanges of neighbours."""
    tables = list(tables)
    now = list(range(len(order)))
    for place in range(len(order)):
        at = now.index(order[place])
        while at > place:
            at -= 1
            entries = _swapped(tables, entries, at)
            tables[at], tables[at + 1] = tables[at + 1], tables[at]
            now[at], now[at + 1] = now[at + 1], now[at]
    return entries


def _swapped(tables, entries, at):
    """The entries after the exchange of a place with the next one; only the classes of these two may change."""
    made = list(entries)
    made[at] = _entry_before(tables, entries, at)
    made[at + 1] = _entry_behind(tables, entries, at)
    return [entry_of([_exchanged(group, at) for group in groups(entry)]) for entry in made]


def _exchanged(group, at):
    """The group with the values of a place and of the next one exchanged in its rows."""
    return {value: _exchanged_row(group[value], at) for value in group}


def _exchanged_row(row, at):
    return row[:at] + (row[at + 1], row[at]) + row[at + 2:]


def _entry_before(tables, entries, at):
    """The entry of the later of two places if it stands before the other one."""
    entry = {}
    for value in entries[at + 1]:
        if value not in entry:
            entry.update(entry_of([_group_before(tables, entries, entries[at + 1][value][value], at)]))
    return entry


def _group_before(tables, entries, row, at):
    """The values behind the place in the rows that agree with the row before it, with such rows."""
    group = {}
    for first in entries[at][row[at]]:
        near = moved(tables, entries, row, at, first)
        for second in entries[at + 1][near[at + 1]]:
            if second not in group:
                group[second] = moved(tables, entries, near, at + 1, second)
    return ascending(group)


def _entry_behind(tables, entries, at):
    """The entry of the earlier of two places if it stands behind the other one."""
    entry = {}
    for value in entries[at]:
        if value not in entry:
            entry.update(entry_of([_group_behind(tables, entries, entries[at][value][value], at)]))
    return entry


def _group_behind(tables, entries, row, at):
    """The values at the place in the rows that agree with the row before and behind it, with such rows."""
    group = {}
    for first in entries[at][row[at]]:
        near = moved(tables, entries, row, at, first)
        if row[at + 1] in entries[at + 1][near[at + 1]]:
            group[first] = moved(tables, entries, near, at + 1, row[at + 1])
    return group
