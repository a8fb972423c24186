"""Kinds: up to four values, and an operation with m(x, y, y) = m(y, y, x) = x."""

from keptbythree.errors import BadEntries, BadKind, BadSize
from keptbythree.values import is_integer, is_value


class Kind:
    """A kind of variables, given by the table of its operation."""

    LARGEST = 4

    def __init__(self, table):
        if not _is_table(table):
            raise BadKind(None, None)
        for x in range(len(table)):
            for y in range(len(table)):
                if table[x][y][y] != x or table[y][y][x] != x:
                    raise BadKind(x, y)
        self._table = table
        self._columns = _columns(table)

    @classmethod
    def cyclic(cls, size):
        """The kind with m(x, y, z) = x - y + z modulo the size."""
        _check_size(size)
        lines = [tuple([(start + z) % size for z in range(size)]) for start in range(size)]
        return cls(tuple([tuple([lines[(x - y) % size] for y in range(size)]) for x in range(size)]))

    @classmethod
    def free(cls, size, entries):
        """The kind with these free entries, in ascending order of (x, y, z)."""
        _check_size(size)
        _check_entries(size, entries)
        return cls(_filled(size, entries))

    @property
    def size(self):
        """How many values the kind has."""
        return len(self._table)

    @property
    def table(self):
        """The table with m(x, y, z) at table[x][y][z]."""
        return self._table

    def apply(self, x, y, z):
        """m(x, y, z), of three values."""
        return self._table[x][y][z]

    def __eq__(self, other):
        return isinstance(other, Kind) and self._table == other._table

    def __repr__(self):
        return f"Kind(size={len(self._table)})"


def _is_table(thing):
    """Whether the thing, any value, has the form of a table; what it says of m is not looked at."""
    return isinstance(thing, tuple) and 1 <= len(thing) <= Kind.LARGEST and _is_cube(thing, len(thing), 3)


def _is_cube(thing, size, depth):
    """Whether the thing consists of tuples of this size, nested this deep, with values in the last ones."""
    if depth == 0:
        return is_value(thing, size)
    if not isinstance(thing, tuple) or len(thing) != size:
        return False
    return all([_is_cube(part, size, depth - 1) for part in thing])


def _columns(table):
    """The values of m(x, y, z) by x, at columns[y][z]."""
    size = len(table)
    return tuple([tuple([tuple([plane[y][z] for plane in table]) for z in range(size)]) for y in range(size)])


def _check_size(size):
    if not is_integer(size) or not 1 <= size <= Kind.LARGEST:
        raise BadSize(size)


def _check_entries(size, entries):
    if not isinstance(entries, (list, tuple)) or len(entries) != size * (size - 1) * (size - 1):
        raise BadEntries()
    if not all([is_value(entry, size) for entry in entries]):
        raise BadEntries()


def _filled(size, entries):
    """The table with these free entries; all others follow from what a kind is."""
    used = 0
    table = []
    for x in range(size):
        plane = []
        for y in range(size):
            if x == y:
                plane.append(tuple(range(size)))
            else:
                line = list(entries[used:used + size - 1])
                line.insert(y, x)
                plane.append(tuple(line))
                used += size - 1
        table.append(tuple(plane))
    return tuple(table)
