"""The rows of the certificate, for a set whose entries have any rows."""

from keptbythree.entries import base, entry_of, groups, lowest, moved
from keptbythree.goals import Goal, changes, levels


def canonical(tables, entries):
    """The entries of the same set with the rows of its certificate."""
    return [_canonical_entry(tables, entries, place) for place in range(len(entries))]


def _canonical_entry(tables, entries, place):
    """The entry of one place with the rows of the certificate."""
    changed = changes(entries, (place,))
    made = []
    for group in groups(entries[place]):
        reach = levels((tables[place],), changed, [(min(group),)])
        first = Goal(tables, entries, (place,), reach).steered(base(entries), 0)
        near = {value: moved(tables, entries, first, place, value) for value in group}
        made.append({value: lowest(tables, entries, near[value], place + 1) for value in near})
    return entry_of(made)
