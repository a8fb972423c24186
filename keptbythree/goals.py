"""Goals: the rows of a set with wanted values at some of its places, found without a list of the rows."""

from keptbythree.entries import base
from keptbythree.marks import BITS, marks_of, origins


class Goal:
    """The rows of a set whose values at one to three places form one of the wanted rows, which are closed.

    The set is given by the columns of its kinds and by entries with any rows.
    """

    def __init__(self, columns, entries, places, wanted):
        self._columns = columns
        self._entries = entries
        self._places = places
        self._shifts = [(place, BITS * turn) for turn, place in enumerate(places)]
        self._wanted = marks_of(wanted)
        self._marks = [{value: self.mark(entry[value][value]) for value in entry} for entry in entries]

    def mark(self, row):
        """The mark of the row."""
        mark = 0
        for place, shift in self._shifts:
            mark |= row[place] << shift
        return mark

    def has_all(self):
        """Whether all rows of the set are in the goal. They are if those of the entries are, since it is closed."""
        return all([self._has_marks(marks, marks) for marks in self._marks])

    def has_any(self, levels):
        """Whether some row of the set is in the goal, which has these levels."""
        return levels[0] >> self.mark(base(self._entries)) & 1 == 1

    def has_group(self, place, group):
        """Whether the rows of a group of the entries are in the goal."""
        return self._has_marks(self._marks[place], group)

    def _has_marks(self, marks, values):
        for value in values:
            if not self._wanted >> marks[value] & 1:
                return False
        return True

    def levels(self):
        """For each place, and behind the last one, the marks of those rows that agree before it with one of the goal.

        The marks of rows that are not in the set do not matter; they may be there or not.
        """
        levels = [self._wanted]
        for place in range(len(self._entries) - 1, -1, -1):
            levels.append(self._level(place, levels[-1]))
        levels.reverse()
        return levels

    def _level(self, place, marks):
        """The level of the place, where these marks are that of the next place.

        Let y be a row that agrees before the place with a row z of the goal. Moved to the value of z at the place, it
        agrees with z there, too, and has one of these marks. Let now any move of the entry turn the mark of a row y of
        the set into one of these. The rows of the move agree before the place, so what it makes of y does so with y.
        """
        found = self._marks[place]
        entry = self._entries[place]
        pairs = [(entry[value][min(entry[value])], entry[value][value]) for value in entry
                 if found[value] != found[min(entry[value])]]
        near = marks
        for first, other in pairs:
            near |= self._origins(marks, first, other)
        level = near
        for first, other in pairs:
            level |= self._origins(near, other, first)
        return level

    def _origins(self, marks, old, new):
        """The marks that the combination with the rows old and new turns into one of these."""
        for turn, place in enumerate(self._places):
            if old[place] != new[place]:
                marks = origins(marks, turn, self._columns[place][old[place]][new[place]])
        return marks
