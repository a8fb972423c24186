"""The rows of the certificate, for a frame with any rows."""

from keptbythree.entries import entry_of, groups
from keptbythree.unions import unions_of


def settled(frame):
    """The entries of the set of the frame, with the rows of its certificate."""
    return Settling(frame).least_entries()


class Settling:
    """The least rows of a frame with certain values, found step by step from the least row of all."""

    def __init__(self, frame):
        self._source = frame
        self._unions = unions_of(frame.columns, frame.entries)
        self._known = {}
        self._least = frame.least_row()

    def least_entries(self):
        """The entries with the rows of the certificate."""
        return [self._entry(place) for place in range(len(self._source.entries))]

    def _entry(self, place):
        made = []
        for group in groups(self._source.entries[place]):
            row = self._least_with(place, min(group))
            made.append({value: self._changed(row, place, value) for value in group})
        return entry_of(made)

    def _changed(self, row, place, value):
        """The least row that agrees with the row before the place and has this value of its class there."""
        if row[place] == value:
            return row
        key = (row, place, value)
        if key not in self._known:
            near = list(row)
            self._source.change(near, place, value)
            self._source.descend(near, place + 1)
            self._known[key] = tuple(near)
        return self._known[key]

    def _least_with(self, place, value):
        """The least row with this value at the place, the least value of its class."""
        row = self._least
        while row[place] != value:
            row = self._nearer(row, place, value)
        return row

    def _nearer(self, row, place, value):
        """The row changed at the last place from which on it can get the value, to the least value with which it can.

        The row is the least one that agrees with it before any place behind the last change. So all its values there
        are the least of their groups, and nothing has to be changed as long as the value can be had later. At the place
        itself it cannot be had, since it is the least of its class, and not that of the row.
        """
        wanted = self._unions[place][0][1][value]
        for at, together in self._unions[place][1:]:
            if together[value] >> row[place] & 1:
                for other in self._source.entries[at][row[at]]:
                    near = self._changed(row, at, other)
                    if wanted >> near[place] & 1:
                        return near
            wanted = together[value]
        return row
