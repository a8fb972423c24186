"""Frames: sets that are not empty, as entries with any rows, together with the moves between these rows.

A move turns a row y into the combination of y, t and u, where t and u agree before some place. It is a list of pairs
(place, column), one for each place at which t and u differ: the new value at the place is the item of the column at
the old value. Most rows t and u of an entry differ at few places, so that a move takes less time than a combination.

Columns are those of the kinds: columns[y][z] has the values m(x, y, z) by x.
"""

from keptbythree.entries import base, entry_of, groups


class Frame:
    """A set by its entries, with the moves from each value to the least one of its group (down) and back (up)."""

    def __init__(self, tables, columns):
        self.tables = tables
        self.columns = columns
        self.entries = [{} for _ in tables]
        self.down = [{} for _ in tables]
        self.up = [{} for _ in tables]

    def add(self, place, group):
        """Adds a group to the entry of the place."""
        columns = self.columns
        first = group[min(group)]
        for value in group:
            other = group[value]
            spots = [at for at in range(place, len(first)) if first[at] != other[at]]
            self.entries[place][value] = group
            self.up[place][value] = [(at, columns[at][first[at]][other[at]]) for at in spots]
            self.down[place][value] = [(at, columns[at][other[at]][first[at]]) for at in spots]

    def adopt(self, frame, place, group):
        """Adds a group that another frame has at the place."""
        for value in group:
            self.entries[place][value] = group
            self.up[place][value] = frame.up[place][value]
            self.down[place][value] = frame.down[place][value]

    def change(self, row, place, value):
        """Moves the row, a list, to another value of its group at the place."""
        for at, column in self.down[place][row[place]]:
            row[at] = column[row[at]]
        for at, column in self.up[place][value]:
            row[at] = column[row[at]]

    def descend(self, row, place):
        """Makes the row, a list, the least row of the set that agrees with it before the place."""
        for moves in self.down[place:]:
            for at, column in moves[row[place]]:
                row[at] = column[row[at]]
            place += 1

    def least_row(self):
        """The least row of the set."""
        row = list(base(self.entries))
        self.descend(row, 0)
        return tuple(row)


def frame_of(tables, columns, entries):
    """The frame with these entries."""
    frame = Frame(tables, columns)
    for place in range(len(entries)):
        for group in groups(entries[place]):
            frame.add(place, group)
    return frame


def values_at(row, places):
    """The values of the row at the places."""
    return tuple([row[place] for place in places])


def cut(tables, columns, entries, places):
    """The frame of the values at these places alone, in this order, where the entries belong to such an order.

    Places may be left out that stand behind all others, or that follow from those before them.
    """
    made = [_cut_entry(entries[place], places) for place in places]
    return frame_of(values_at(tables, places), values_at(columns, places), made)


def _cut_entry(entry, places):
    """The entry with the values at these places alone in its rows."""
    return entry_of([{value: values_at(group[value], places) for value in group} for group in groups(entry)])
