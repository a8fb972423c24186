"""Learners: what can be known of a closed set from some of its rows."""

from keptbythree.entries import combined
from keptbythree.errors import BadPlace, BadRow, Known
from keptbythree.rows import is_row
from keptbythree.values import is_value


class Learner:
    """A learner that is told rows of a set that it does not know, and guesses the set."""

    def __init__(self, *kinds):
        self._kinds = kinds
        self._tables = tuple([kind.table for kind in kinds])
        self._start = None
        self._links = [[] for _ in kinds]
        self._told = 0

    def has(self, row):
        """Whether this, any value, is a row of the guess."""
        if self._start is None or not is_row(self._kinds, row):
            return False
        return self._walked(row)[0] is None

    def tell(self, row):
        """Tells a row of the set that is not in the guess."""
        if not is_row(self._kinds, row):
            raise BadRow(row)
        if self._start is None:
            self._start = row
        else:
            place, near = self._walked(row)
            if place is None:
                raise Known(row)
            self._links[place].append((near[place], row[place], near, row))
        self._told += 1

    @property
    def told(self):
        """The number of rows told."""
        return self._told

    def start(self):
        """The first row told, or None."""
        return self._start

    def links(self, place):
        """The links of a place, in the order in which they were added."""
        if not is_value(place, len(self._kinds)):
            raise BadPlace(place)
        return list(self._links[place])

    def _walked(self, row):
        """The place where the walk to the row ends, or None, and the row that it reaches."""
        near = self._start
        for place in range(len(row)):
            path = self._path(place, near[place], row[place])
            if path is None:
                return place, near
            for old, new in path:
                near = combined(self._tables, near, old, new)
        return None, near

    def _path(self, place, begin, end):
        """The rows of the links that lead from one value of the place to another one, or None if none lead there."""
        paths = {begin: []}
        todo = [begin]
        while todo and end not in paths:
            value = todo.pop()
            for first, second, old, new in self._links[place]:
                if first == value and second not in paths:
                    paths[second] = [*paths[value], (old, new)]
                    todo.append(second)
                elif second == value and first not in paths:
                    paths[first] = [*paths[value], (new, old)]
                    todo.append(first)
        return paths.get(end)


def learn(kinds, find):
    """Tells a new learner the rows that the function finds for it, until it finds none. Returns the learner."""
    learner = Learner(*kinds)
    row = find(learner)
    while row is not None:
        learner.tell(row)
        row = find(learner)
    return learner
