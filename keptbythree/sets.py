"""Closed sets of rows, each of them kept as its certificate."""

from keptbythree.entries import (above, base, below, certificate_of, entries_of_all, entries_of_rows, groups, highest,
                                 walked)
from keptbythree.errors import BadPlace, BadRow, EmptySet
from keptbythree.frames import frame_of
from keptbythree.rows import check_closed, is_row
from keptbythree.values import is_value


class ClosedSet:
    """A closed set of rows for some kinds. It never changes.

    Other modules make one from the kinds and the entries of its certificate, or None in place of these if it is empty.
    """

    def __init__(self, kinds, entries):
        self._kinds = tuple(kinds)
        self._tables = tuple([kind.table for kind in kinds])
        self._columns = tuple([kind._columns for kind in kinds])
        self._entries = entries
        self._known_frame = None

    @classmethod
    def full(cls, *kinds):
        """The set of all rows."""
        return cls(kinds, entries_of_all([kind.table for kind in kinds]))

    @classmethod
    def empty(cls, *kinds):
        """The set of no rows."""
        return cls(kinds, None)

    @classmethod
    def of_rows(cls, kinds, rows):
        """The set of these rows."""
        check_closed(kinds, rows)
        if not rows:
            return cls(kinds, None)
        return cls(kinds, entries_of_rows(sorted(set(rows))))

    @property
    def kinds(self):
        """The kinds of the places."""
        return self._kinds

    @property
    def width(self):
        """The number of places."""
        return len(self._kinds)

    @property
    def is_empty(self):
        """Whether the set has no row."""
        return self._entries is None

    def __eq__(self, other):
        return isinstance(other, ClosedSet) and self._kinds == other._kinds and self._entries == other._entries

    def __repr__(self):
        return f"ClosedSet(width={len(self._kinds)})"

    def certificate(self):
        """The certificate, which depends on the kinds and the rows alone."""
        return None if self._entries is None else certificate_of(self._entries)

    def classes(self, place):
        """The classes of a place, as ascending lists of values."""
        if not is_value(place, len(self._kinds)):
            raise BadPlace(place)
        if self._entries is None:
            return []
        return [list(group) for group in groups(self._entries[place])]

    def has(self, row):
        """Whether this, any value, is a row of the set."""
        if self._entries is None or not is_row(self._kinds, row):
            return False
        return walked(self._tables, self._entries, row)[1] is None

    def walk(self, row):
        """The walk to a row: its steps, the place at which it ends or None, and the row that it reaches."""
        self._check_row(row)
        if self._entries is None:
            raise EmptySet()
        return walked(self._tables, self._entries, row)

    def least(self):
        """The least row, or None."""
        return None if self._entries is None else base(self._entries)

    def greatest(self):
        """The greatest row, or None."""
        if self._entries is None:
            return None
        return highest(self._tables, self._entries, base(self._entries), 0)

    def after(self, row):
        """The least row of the set that is greater, or None."""
        self._check_row(row)
        if self._entries is None:
            return None
        near, place = self._nearest(row)
        return above(self._tables, self._entries, row, near, place)

    def before(self, row):
        """The greatest row of the set that is less, or None."""
        self._check_row(row)
        if self._entries is None:
            return None
        near, place = self._nearest(row)
        return below(self._tables, self._entries, row, near, place)

    def next_values(self, *prefix):
        """The values that follow this beginning in rows of the set, in ascending order."""
        place = len(prefix)
        if place >= len(self._kinds):
            raise BadPlace(place)
        if not is_row(self._kinds[:place], prefix):
            raise BadRow(prefix)
        if self._entries is None:
            return []
        _, end, near = walked(self._tables, self._entries, prefix)
        return list(self._entries[place][near[place]]) if end is None else []

    def rows(self, start=None):
        """The rows in ascending order, from the start on, which need not be one of them."""
        row = self.least() if start is None else self._first_from(start)
        while row is not None:
            yield row
            row = above(self._tables, self._entries, row, row, len(row))

    def first(self, count):
        """The first rows, as many as that, or all if there are fewer."""
        found = []
        row = self.least()
        while row is not None and len(found) < count:
            found.append(row)
            row = above(self._tables, self._entries, row, row, len(row))
        return found

    def _frame(self):
        """The frame of the set, which is not empty."""
        # The set never changes, and its frame is needed again for each set that is made from it.
        if self._known_frame is None:
            self._known_frame = frame_of(self._tables, self._columns, self._entries)
        return self._known_frame

    def _check_row(self, row):
        if not is_row(self._kinds, row):
            raise BadRow(row)

    def _first_from(self, row):
        """The least row of the set that is not less."""
        return row if self.has(row) else self.after(row)

    def _nearest(self, row):
        """The row that the walk to the row reaches, and the place before which the two agree."""
        _, place, near = walked(self._tables, self._entries, row)
        return near, len(row) if place is None else place
